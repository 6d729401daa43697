/-
  Alloc and Init make one object more (grow_objs); the laws' example of layer 10.
-/
import Derived.Test.YthcfcciemjkilaaWkl
import Derived.Test.YthcfcciemjkilaaAwk
namespace Go.Proofs.Ythcfcciemjkilaa
open Go.RowKit
set_option maxRecDepth 100000
set_option linter.unusedVariables false

/-- What Alloc and Init leave of an increment that objects fill: one object more, the others as they were. -/
theorem grow_objs {k nw n r d W j : Nat} {wd : Nat → Int} {F F' : Nat → Fr} {sq bt fi la fi' la' wo : Int} (h0 : allE k nw wd n F sq bt fi la wo ((1 + r + d : Nat) : Int) = 0) (hg : allG k n F sq bt fi la wo ((1 + r + d : Nat) : Int) = ⟨F', fi', la'⟩) (hu : U64w nw wd) (hr : r ≤ 15) (hd : d ≤ 32)
    (hW : wo = W) (hh : Hds k wd F fi j) (hp : posN k wd F fi j = W) :
    ∃ wd' : Nat → Int, wd' = iniW k nw wd n F' (addrP F' k fi' W) (Hd.liveV r d) (r + d) ∧ iniE k nw wd n F' (addrP F' k fi' W) r d = 0 ∧ ValidP k nw wd' n F' ∧ FitsQ k n nw F' sq bt fi' la' ((W + (1 + r + d) : Nat) : Int) ∧ U64w nw wd' ∧
      Hds k wd' F' fi' (j + 1) ∧ posN k wd' F' fi' (j + 1) = W + (1 + r + d) ∧ lstN k wd' F' fi' (j + 1) = lstN k wd F fi j ++ [(addrP F' k fi' W).toNat] ∧
      ObjsX k nw wd' n F' sq bt fi' la' ((W + (1 + r + d) : Nat) : Int) (lstN k wd F fi j ++ [(addrP F' k fi' W).toNat]) 0 ∧ 0 ≤ addrP F' k fi' W ∧ addrP F' k fi' W < 16384 := by
  obtain ⟨W', D, e1, e2, _, _, hv, hv', hf, hgr⟩ := all_valid h0
  obtain ⟨hib, _, _, _, hfr⟩ := allE_zero h0
  obtain rfl : W' = W := by omega
  obtain rfl : D = 1 + r + d := by omega
  rw [hg] at hv' hf hgr
  dsimp only at hv' hf hgr
  have hst := fits_stB hf.1
  have hc := hgr.2.1
  have hcov := ceilV_cover (W' + (1 + r + d)) k
  have hit : 0 < W' → fi' = fi ∧ ∀ i, i < ceilV W' k → iter F' i fi' = iter F i fi' := fun hW0 => by
    obtain ⟨_, hfq⟩ := incB_yes hib
    rw [Int.toNat_natCast] at hfq
    obtain ⟨_, _, _, _, W2, e3, _, hc2, _⟩ := hfq.1
    obtain rfl : W2 = W' := by omega
    have hcv := ceilV_cover W2 k
    have hpos : 0 < ceilV W2 k := by
      rcases Nat.eq_zero_or_pos (ceilV W2 k) with e | e
      · rw [e] at hcv; omega
      · exact e
    have h := growG_iter hv.fv hst hc2 hpos (moreK k W2 (1 + r + d)) (by rw [hW, Int.toNat_natCast, Int.toNat_natCast] at hfr; exact hfr)
    have hg2 := hg
    unfold allG at hg2
    rw [hW, Int.toNat_natCast, Int.toNat_natCast, Int.toNat_natCast] at hg2
    rw [hg2] at h
    obtain ⟨h1, h2⟩ := h
    dsimp only at h1 h2
    rw [h1]
    exact ⟨rfl, h2⟩
  obtain ⟨a1, a2, a3⟩ := run_own (fi := fi) hv' hc hst hr hd hcov hit hh hp
  have hm0 : 0 < ceilV (W' + (1 + r + d)) k := by
    rcases Nat.eq_zero_or_pos (ceilV (W' + (1 + r + d)) k) with e | e
    · rw [e] at hcov; omega
    · exact e
  have hso := (stB_yes hst).1
  obtain ⟨p, rfl, hpn, hpo, hl⟩ := hc.len hv'.fv hst hm0
  have hs := (addr_stp hv' hpn (by omega) hl (P := W') (Q := r + d) (by omega)).1
  have hlv := (Hd.live_in (r := r) (d := d) (by omega)).1
  obtain ⟨z, y, ez, hy, hz, hoz, hlt, _⟩ := addr_in hv' hpn (by omega) hl (show W' < ceilV (W' + (1 + r + d)) k * 2 ^ k by omega)
  obtain ⟨_, _, _, nw1⟩ := sp_bounds hv'
  have hvi : ValidP k nw (iniW k nw wd n F' (addrP F' k p W') (Hd.liveV r d) (r + d)) n F' := iniW_valid hv' (r + d) hs
  refine ⟨_, rfl, by rw [ini_in (validB_yes hv') (by omega)]; exact hs, hvi, hf, iniW_u64 hu (by rw [hlv]; omega) (by rw [hlv]; omega) _, a1, a2, a3, .inr ⟨incB_mk hvi (by rw [Int.toNat_natCast]; exact hf), ?_⟩, by omega, by omega⟩
  rw [Int.toNat_natCast, Int.toNat_natCast, ← a3]
  exact ⟨j + 1, a1, by omega, .inl ⟨a2, rfl, rfl⟩⟩

/-! The example. -/
def QZ : Nat → Int := fun _ => 0
noncomputable def QA : Nat → Int := iniW (3 : Nat) 32 QZ 4 Q1 0 (Hd.liveV (1 : Nat) (3 : Nat)) (1 + 3)
noncomputable def QB : Nat → Int := iniW (3 : Nat) 32 QA 4 Q2 5 (Hd.liveV (0 : Nat) (5 : Nat)) (0 + 5)
theorem q_u : U64w 32 QZ := fun _ _ => ⟨by show (0 : Int) ≤ 0; decide, by show (0 : Int) < 18446744073709551616; decide⟩
theorem q_a : iniE (3 : Nat) 32 QZ 4 Q1 0 1 3 = 0 ∧ ValidP (3 : Nat) 32 QA 4 Q1 ∧ FitsQ 3 4 32 Q1 0 0 0 0 5 ∧ U64w 32 QA ∧ Hds 3 QA Q1 0 1 ∧ posN 3 QA Q1 0 1 = 5 ∧ lstN 3 QA Q1 0 1 = [0] := by
  obtain ⟨wd', e, h1, h2, h3, h4, h5, h6, h7, _⟩ := grow_objs (k := 3) (nw := 32) (n := 4) (r := 1) (d := 3) (W := 0) (j := 0) (wd := QZ) (F := Q0) (F' := Q1) (sq := 0) (bt := 0) (fi := -1) (la := -1) (fi' := 0) (la' := 0) (wo := 0) q_e0 q_g0 q_u (by decide) (by decide) rfl (fun i hi => absurd hi (by omega)) rfl
  have ea : addrP Q1 3 0 0 = 0 := by decide
  rw [ea] at e h1 h7
  have e2 : wd' = QA := e
  rw [e2] at h2 h4 h5 h6 h7
  exact ⟨h1, h2, h3, h4, h5, h6, h7⟩
theorem q_e2 : allE (3 : Nat) 32 QA 4 Q1 0 0 0 0 5 6 = 0 := by
  obtain ⟨_, hv, hf, _⟩ := q_a
  refine allE_ok (fun h => ?_) (fun h => absurd h.1 (by decide)) (by decide)
  rcases h with h | h | h
  · exact absurd ((incB_mk hv hf).symm.trans h) (by decide)
  · exact absurd h (by decide)
  · exact absurd h (by decide)
theorem q_b : iniE (3 : Nat) 32 QA 4 Q2 5 0 5 = 0 ∧ U64w 32 QB ∧ ObjsX (3 : Nat) 32 QB 4 Q2 0 0 0 1 11 [0, 5] 0 := by
  obtain ⟨_, _, _, hu, hh, hp, hl⟩ := q_a
  obtain ⟨wd', e, h1, h2, h3, h4, h5, h6, h7, h8, _⟩ := grow_objs (k := 3) (nw := 32) (n := 4) (r := 0) (d := 5) (W := 5) (j := 1) (wd := QA) (F := Q1) (F' := Q2) (sq := 0) (bt := 0) (fi := 0) (la := 0) (fi' := 0) (la' := 1) (wo := 5) q_e2 q_g1 hu (by decide) (by decide) rfl hh hp
  have ea : addrP Q2 3 0 5 = 5 := by decide
  rw [ea] at e h1 h8
  rw [hl] at h8
  have e2 : wd' = QB := e
  rw [e2] at h4 h8
  exact ⟨h1, h4, h8⟩
set_option maxHeartbeats 8000000 in
theorem awake10_any (w : World) : Calls Try.prog 7 #[] w fun e w' => e = .returned (.bool true) ∧ Below w.heap.size w w' := by
  go_enter Try.func7, Try.ntmps7
  go_wp2_with fail
  refine (refNew_yes 3 4 _ (by decide) (by decide) (by decide) (by decide)).mono ?_
  rintro e w1 ⟨A, A', rfl, ha, ht, hb1⟩
  obtain ⟨V, hV⟩ : ∃ V, V = w1.alloc (.cells #[.int .i64 3, .slice A 32 32, .slice A' 4 4] 25) := ⟨_, rfl⟩
  have hbv : Below w1.heap.size w1 V := by rw [hV]; exact (Below.refl _ _).alloc (Nat.le_refl _) _
  have BX := Lib.hid (show Blk V w1.heap.size 25 #[.int .i64 3, .slice A 32 32, .slice A' 4 4] by rw [hV]; exact Blk.new _ _ _)
  have HA1 := Lib.hid (ha.arr.next hbv)
  have HT1 := Lib.hid (ht.tab.next hbv)
  have HB1 := Lib.hid (below_next hb1 (Nat.le_refl _) hbv)
  have z1 : w.heap.size ≤ w1.heap.size := hb1.size
  have HV := Lib.hid hV
  have p0 := BX.out.cell 0
  have p1 := BX.out.cell 1
  have p2 := BX.out.cell 2
  have pz := BX.out.lt
  simp at p0 p1 p2
  clear hV hbv ha ht hb1
  go_wp2_with fail
  rw [← HV.out]
  refine ((refAll9_any 3 A A' 32 32 4 4 QZ Q0 0 0 (-1) (-1) 0 5 V HA1.out HT1.out).mono (fun e w' h => h.yes q_e0 q_g0 (a := 0) (by decide) (wo' := 5) (by decide))).mono ?_
  rintro e w2 ⟨A2, c2, g2, d2, rfl, ho, ht, hb2⟩
  have X := BX.out.next hb2
  have x0 := X.cell 0
  have x1 := X.cell 1
  have x2 := X.cell 2
  have xf0 := X.frozen 0
  have xf1 := X.frozen 1
  have xf2 := X.frozen 2
  have xz := X.lt
  simp at x0 x1 x2
  obtain ⟨V2, hV2⟩ : ∃ V2, V2 = (((w2.setCell ⟨w1.heap.size, 0, none⟩ (.int .i64 3)).setCell ⟨w1.heap.size, 1, none⟩ (.slice A2 32 c2)).setCell ⟨w1.heap.size, 2, none⟩ (.slice (some ⟨g2, 0, none⟩) 4 d2)).alloc (.cells #[.int .i64 0, .int .i64 0, .int .i64 0, .int .i64 0, .int .i64 5] 27) := ⟨_, rfl⟩
  have BX2 := Lib.hid (show Blk V2 w1.heap.size 25 #[.int .i64 3, .slice A2 32 c2, .slice (some ⟨g2, 0, none⟩) 4 d2] by rw [hV2]; exact (X.set3 _ _ _).alloc _)
  have BI2 := Lib.hid (show Blk V2 w2.heap.size 27 #[.int .i64 0, .int .i64 0, .int .i64 0, .int .i64 0, .int .i64 5] by rw [hV2]; exact Blk.newAt _ _ _ _ (by simp))
  have HA2 := Lib.hid (show Arr V2 V2.heap.size A2 32 c2 QZ by rw [hV2]; exact ((ho.put3 BX.out.lt _ _ _).alloc9 _).arr)
  have HT2 := Lib.hid (show Tab V2 V2.heap.size (some ⟨g2, 0, none⟩) 4 d2 Q1 by rw [hV2]; exact ((ht.put3 BX.out.lt _ _ _).alloc9 _).tab)
  have HB2 := Lib.hid (show Below w.heap.size w V2 by rw [hV2]; exact below_alloc9 (below_put3 (below_next HB1.out (Nat.le_refl _) hb2) z1 _ _ _) _)
  have z12 : w1.heap.size < w2.heap.size := xz
  have HV2 := Lib.hid hV2
  have y0 := BX2.out.cell 0
  have y1 := BX2.out.cell 1
  have y2 := BX2.out.cell 2
  have yz := BX2.out.lt
  simp at y0 y1 y2
  clear hV2 ho ht hb2 X p0 p1 p2 pz
  go_upto_region 3 with fail
  rw [← HV2.out]
  clear x0 x1 x2 xf0 xf1 xf2 xz
  -- Init
  have CI := refInit_any (3 : Nat) A2 (some ⟨g2, 0, none⟩) 32 c2 4 d2 QZ Q1 0 1 3 V2 HA2.out HT2.out (by decide) (by decide) (by decide) (by decide)
  go_wp2_with fail
  refine CI.mono ?_
  rintro e w3 (⟨y, h1, h2, _⟩ | ⟨_, A3, c3, g3, d3, rfl, ho, ht, hb3⟩)
  · exact absurd (h1.symm.trans q_a.1) h2
  have X := BX2.out.next hb3
  have I := BI2.out.next hb3
  have x0 := X.cell 0
  have x1 := X.cell 1
  have x2 := X.cell 2
  have xf0 := X.frozen 0
  have xf1 := X.frozen 1
  have xf2 := X.frozen 2
  have xz := X.lt
  simp at x0 x1 x2
  obtain ⟨V3, hV3⟩ : ∃ V3, V3 = ((w3.setCell ⟨w1.heap.size, 0, none⟩ (.int .i64 3)).setCell ⟨w1.heap.size, 1, none⟩ (.slice A3 32 c3)).setCell ⟨w1.heap.size, 2, none⟩ (.slice (some ⟨g3, 0, none⟩) 4 d3) := ⟨_, rfl⟩
  have hne : w2.heap.size ≠ w1.heap.size := by omega
  have hne' : w1.heap.size ≠ w2.heap.size := by omega
  have BX3 := Lib.hid (show Blk V3 w1.heap.size 25 #[.int .i64 3, .slice A3 32 c3, .slice (some ⟨g3, 0, none⟩) 4 d3] by rw [hV3]; exact X.set3 _ _ _)
  have BI3 := Lib.hid (show Blk V3 w2.heap.size 27 #[.int .i64 0, .int .i64 0, .int .i64 0, .int .i64 0, .int .i64 5] by rw [hV3]; exact I.far3 hne _ _ _)
  have HA3 := Lib.hid (show Arr V3 V3.heap.size A3 32 c3 QA by rw [hV3]; exact (ho.put3 yz _ _ _).arr)
  have HT3 := Lib.hid (show Tab V3 V3.heap.size (some ⟨g3, 0, none⟩) 4 d3 Q1 by rw [hV3]; exact (ht.put3 yz _ _ _).tab)
  have HB3 := Lib.hid (show Below w.heap.size w V3 by rw [hV3]; exact below_put3 (below_next HB2.out (Nat.le_refl _) hb3) z1 _ _ _)
  have HV3 := Lib.hid hV3
  have yz3 := BX3.out.lt
  have iz3 := BI3.out.lt
  clear hV3 ho ht hb3 X I y0 y1 y2 yz CI BX2 BI2
  go_upto_region 4 with fail
  rw [← HV3.out]
  clear x0 x1 x2 xf0 xf1 xf2 xz
  have y0 := BX3.out.cell 0
  have y1 := BX3.out.cell 1
  have y2 := BX3.out.cell 2
  have yz := BX3.out.lt
  simp at y0 y1 y2
  have i0 := BI3.out.cell 0
  have i1 := BI3.out.cell 1
  have i2 := BI3.out.cell 2
  have i3 := BI3.out.cell 3
  have i4 := BI3.out.cell 4
  have iz := BI3.out.lt
  simp at i0 i1 i2 i3 i4
  -- the second Alloc
  have CA := (refAll9_any (3 : Nat) A3 (some ⟨g3, 0, none⟩) 32 c3 4 d3 QA Q1 0 0 0 0 5 6 V3 HA3.out HT3.out).mono (fun e w' h => h.yes q_e2 q_g1 (a := 5) (by decide) (wo' := 11) (by decide))
  go_wp2_with fail
  refine CA.mono ?_
  rintro e w4 ⟨A4, c4, g4, d4, rfl, ho, ht, hb4⟩
  have X := BX3.out.next hb4
  have I := BI3.out.next hb4
  have x0 := X.cell 0
  have x1 := X.cell 1
  have x2 := X.cell 2
  have xf0 := X.frozen 0
  have xf1 := X.frozen 1
  have xf2 := X.frozen 2
  have xz := X.lt
  simp at x0 x1 x2
  have u0 := I.cell 0
  have u1 := I.cell 1
  have u2 := I.cell 2
  have u3 := I.cell 3
  have u4 := I.cell 4
  have uf0 := I.frozen 0
  have uf1 := I.frozen 1
  have uf2 := I.frozen 2
  have uf3 := I.frozen 3
  have uf4 := I.frozen 4
  have uz := I.lt
  simp at u0 u1 u2 u3 u4
  obtain ⟨V4, hV4⟩ : ∃ V4, V4 = (((((((w4.setCell ⟨w1.heap.size, 0, none⟩ (.int .i64 3)).setCell ⟨w1.heap.size, 1, none⟩ (.slice A4 32 c4)).setCell ⟨w1.heap.size, 2, none⟩ (.slice (some ⟨g4, 0, none⟩) 4 d4)).setCell ⟨w2.heap.size, 0, none⟩ (.int .i64 0)).setCell ⟨w2.heap.size, 1, none⟩ (.int .i64 0)).setCell ⟨w2.heap.size, 2, none⟩ (.int .i64 0)).setCell ⟨w2.heap.size, 3, none⟩ (.int .i64 1)).setCell ⟨w2.heap.size, 4, none⟩ (.int .i64 11) := ⟨_, rfl⟩
  have BX4 := Lib.hid (show Blk V4 w1.heap.size 25 #[.int .i64 3, .slice A4 32 c4, .slice (some ⟨g4, 0, none⟩) 4 d4] by rw [hV4]; exact X.first8 hne' _ _ _ _ _ _ _ _)
  have BI4 := Lib.hid (show Blk V4 w2.heap.size 27 #[.int .i64 0, .int .i64 0, .int .i64 0, .int .i64 1, .int .i64 11] by rw [hV4]; exact I.second8 hne' _ _ _ _ _ _ _ _)
  have HA4 := Lib.hid (show Arr V4 V4.heap.size A4 32 c4 QA by rw [hV4]; exact (ho.put8 yz3 iz3 _ _ _ _ _ _ _ _).arr)
  have HT4 := Lib.hid (show Tab V4 V4.heap.size (some ⟨g4, 0, none⟩) 4 d4 Q2 by rw [hV4]; exact (ht.put8 yz3 iz3 _ _ _ _ _ _ _ _).tab)
  have HB4 := Lib.hid (show Below w.heap.size w V4 by rw [hV4]; exact below_put8 (below_next HB3.out (Nat.le_refl _) hb4) z1 (by omega) _ _ _ _ _ _ _ _)
  have HV4 := Lib.hid hV4
  clear hV4 ho ht hb4 X I y0 y1 y2 yz i0 i1 i2 i3 i4 iz CA BX3 BI3 yz3 iz3
  go_upto_region 5 with fail
  rw [← HV4.out]
  clear x0 x1 x2 xf0 xf1 xf2 xz u0 u1 u2 u3 u4 uf0 uf1 uf2 uf3 uf4 uz
  have y0 := BX4.out.cell 0
  have y1 := BX4.out.cell 1
  have y2 := BX4.out.cell 2
  have yz := BX4.out.lt
  simp at y0 y1 y2
  -- the second Init
  have CI := refInit_any (3 : Nat) A4 (some ⟨g4, 0, none⟩) 32 c4 4 d4 QA Q2 5 0 5 V4 HA4.out HT4.out (by decide) (by decide) (by decide) (by decide)
  go_wp2_with fail
  refine CI.mono ?_
  rintro e w5 (⟨y, h1, h2, _⟩ | ⟨_, A5, c5, g5, d5, rfl, ho, ht, hb5⟩)
  · exact absurd (h1.symm.trans q_b.1) h2
  have X := BX4.out.next hb5
  have I := BI4.out.next hb5
  have x0 := X.cell 0
  have x1 := X.cell 1
  have x2 := X.cell 2
  have xf0 := X.frozen 0
  have xf1 := X.frozen 1
  have xf2 := X.frozen 2
  have xz := X.lt
  simp at x0 x1 x2
  obtain ⟨V5, hV5⟩ : ∃ V5, V5 = ((w5.setCell ⟨w1.heap.size, 0, none⟩ (.int .i64 3)).setCell ⟨w1.heap.size, 1, none⟩ (.slice A5 32 c5)).setCell ⟨w1.heap.size, 2, none⟩ (.slice (some ⟨g5, 0, none⟩) 4 d5) := ⟨_, rfl⟩
  have BX5 := Lib.hid (show Blk V5 w1.heap.size 25 #[.int .i64 3, .slice A5 32 c5, .slice (some ⟨g5, 0, none⟩) 4 d5] by rw [hV5]; exact X.set3 _ _ _)
  have BI5 := Lib.hid (show Blk V5 w2.heap.size 27 #[.int .i64 0, .int .i64 0, .int .i64 0, .int .i64 1, .int .i64 11] by rw [hV5]; exact I.far3 hne _ _ _)
  have HA5 := Lib.hid (show Arr V5 V5.heap.size A5 32 c5 QB by rw [hV5]; exact (ho.put3 yz _ _ _).arr)
  have HT5 := Lib.hid (show Tab V5 V5.heap.size (some ⟨g5, 0, none⟩) 4 d5 Q2 by rw [hV5]; exact (ht.put3 yz _ _ _).tab)
  have HB5 := Lib.hid (show Below w.heap.size w V5 by rw [hV5]; exact below_put3 (below_next HB4.out (Nat.le_refl _) hb5) z1 _ _ _)
  have HV5 := Lib.hid hV5
  clear hV5 ho ht hb5 X I y0 y1 y2 yz CI BX4 BI4
  go_upto_region 6 with fail
  rw [← HV5.out]
  clear x0 x1 x2 xf0 xf1 xf2 xz
  have y0 := BX5.out.cell 0
  have y1 := BX5.out.cell 1
  have y2 := BX5.out.cell 2
  have yz := BX5.out.lt
  simp at y0 y1 y2
  have i0 := BI5.out.cell 0
  have i1 := BI5.out.cell 1
  have i2 := BI5.out.cell 2
  have i3 := BI5.out.cell 3
  have i4 := BI5.out.cell 4
  have iz := BI5.out.lt
  simp at i0 i1 i2 i3 i4
  -- Objects
  have CO := objs10_of (s := (3 : Nat)) A5 (some ⟨g5, 0, none⟩) c5 d5 V5 HA5.out HT5.out q_b.2.1 q_b.2.2
  go_wp2_with fail
  refine CO.mono ?_
  rintro e w6 ⟨A6, c6, rfl, hn6, hb6⟩
  obtain ⟨b6, o6, rfl, hbb6, hc6⟩ := hn6.2.2.2 (by decide)
  have l0 : w6.cell? ⟨b6, o6, none⟩ = some (.int .i64 0) := hc6 0 (by decide)
  have l1 : w6.cell? ⟨b6, o6 + 1, none⟩ = some (.int .i64 5) := hc6 1 (by decide)
  have X := Lib.hid (BX5.out.next hb6)
  have I := Lib.hid (BI5.out.next hb6)
  have HA6 := Lib.hid (HA5.out.next hb6)
  have HT6 := Lib.hid (HT5.out.next hb6)
  have HB6 := Lib.hid (below_next HB5.out (Nat.le_refl _) hb6)
  clear hb6 hc6 hn6 CO y0 y1 y2 yz i0 i1 i2 i3 i4 iz
  have y0 := X.out.cell 0
  have y1 := X.out.cell 1
  have y2 := X.out.cell 2
  have yz := X.out.lt
  simp at y0 y1 y2
  have i0 := I.out.cell 0
  have i1 := I.out.cell 1
  have i2 := I.out.cell 2
  have i3 := I.out.cell 3
  have i4 := I.out.cell 4
  have iz := I.out.lt
  simp at i0 i1 i2 i3 i4
  -- Holds, twice
  have CH := holds10_of (s := (3 : Nat)) A5 (some ⟨g5, 0, none⟩) c5 d5 5 w6 HA6.out HT6.out q_b.2.1 q_b.2.2
  rw [show memB [0, 5] 5 = true by decide] at CH
  go_wp2_with fail
  refine CH.mono ?_
  rintro e w7 ⟨rfl, hb7⟩
  have X7 := Lib.hid (X.out.next hb7)
  have I7 := Lib.hid (I.out.next hb7)
  have HB7 := Lib.hid (below_next HB6.out (Nat.le_refl _) hb7)
  have CH2 := holds10_of (s := (3 : Nat)) A5 (some ⟨g5, 0, none⟩) c5 d5 6 w7 (HA6.out.next hb7) (HT6.out.next hb7) q_b.2.1 q_b.2.2
  rw [show memB [0, 5] 6 = false by decide] at CH2
  clear hb7 CH y0 y1 y2 yz i0 i1 i2 i3 i4 iz l0 l1
  have y0 := X7.out.cell 0
  have y1 := X7.out.cell 1
  have y2 := X7.out.cell 2
  have yz := X7.out.lt
  simp at y0 y1 y2
  have i0 := I7.out.cell 0
  have i1 := I7.out.cell 1
  have i2 := I7.out.cell 2
  have i3 := I7.out.cell 3
  have i4 := I7.out.cell 4
  have iz := I7.out.lt
  simp at i0 i1 i2 i3 i4
  go_wp2_with fail
  refine CH2.mono ?_
  rintro e w8 ⟨rfl, hb8⟩
  have HB8 := Lib.hid (below_next HB7.out (Nat.le_refl _) hb8)
  clear hb8 CH2
  go_wp2_with fail
  go_ret
  exact ⟨rfl, HB8.out⟩
end Go.Proofs.Ythcfcciemjkilaa
