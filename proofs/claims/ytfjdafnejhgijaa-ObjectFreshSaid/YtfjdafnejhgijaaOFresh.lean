/-
  The walk of ObjectFresh.
-/
import Derived.Test.YtfjdafnejhgijaaAw8
import Derived.Test.YtfjdafnejhgijaaObs
import Derived.Deep.CutBlock
import Derived.Deep.DeepCutAuto
namespace Go.Proofs.Ytfjdafnejhgijaa
open Go.RowKit
set_option maxRecDepth 100000
set_option linter.unusedVariables false

section
variable {K nw n : Nat} {wd : Nat → Int} {F : Nat → Fr} {a : Int} {R D : Nat}
/-- A field of what Init leaves. -/
theorem fresh_fld (hv : ValidP K nw wd n F) (hu : U64w nw wd) (hR : R ≤ 15) (hD : D ≤ 32) (h : stpE K nw wd n F a ((R + D : Nat) : Int) = 0) (t : Bool) (i : Nat) (hi : (i : Int) < atN R D t) :
    plcE K nw (iniW K nw wd n F a (Hd.liveV R D) (R + D)) n F a i t = 0 ∧ getV K nw (iniW K nw wd n F a (Hd.liveV R D) (R + D)) n F a i t = 0 := by
  obtain ⟨e1, e2, e3⟩ := ini_shape hv hR hD h
  have hl := (Hd.live_in (r := R) (d := D) (by omega)).1
  obtain ⟨p1, p2⟩ := plc_ok (i := (i : Int)) (t := t) e1 (by omega) (by
    unfold fldN; unfold atN at hi
    rw [e2, e3]; exact hi)
  refine ⟨p1, ?_⟩
  unfold getV
  rw [if_pos p1, p2, (stp_words hv (iniW_valid (lv := Hd.liveV R D) hv (R + D) h) a _).2]
  have hk : ∃ k : Nat, fldK K nw (iniW K nw wd n F a (Hd.liveV R D) (R + D)) n F a i t = k ∧ 1 ≤ k ∧ k ≤ R + D := by
    unfold fldK
    unfold atN at hi
    rw [e2]
    cases t
    · simp only [Bool.false_eq_true, if_false] at hi ⊢
      exact ⟨1 + R + i, by omega, by omega, by omega⟩
    · simp only [if_true] at hi ⊢
      exact ⟨1 + i, by omega, by omega, by omega⟩
  obtain ⟨k, e, k1, k2⟩ := hk
  rw [e]
  exact iniW_fld h (R + D) (Nat.le_refl _) k k1 k2
/-- The slots of what Init leaves: as many as asked for, each a number, no two one after the other the same. -/
theorem fresh_slots (hv : ValidP K nw wd n F) (hR : R ≤ 15) (hD : D ≤ 32) (h : stpE K nw wd n F a ((R + D : Nat) : Int) = 0) :
    (sltL K nw (iniW K nw wd n F a (Hd.liveV R D) (R + D)) n F a).length = R ∧ ∀ i, 0 < i → i < R → numF (sltL K nw (iniW K nw wd n F a (Hd.liveV R D) (R + D)) n F a) (i - 1) ≠ numF (sltL K nw (iniW K nw wd n F a (Hd.liveV R D) (R + D)) n F a) i := by
  obtain ⟨e1, e2, e3⟩ := ini_shape hv hR hD h
  refine ⟨by rw [sltL_length, e2, Int.toNat_natCast], fun i hi hiR => ?_⟩
  have g : ∀ j, j < R → numF (sltL K nw (iniW K nw wd n F a (Hd.liveV R D) (R + D)) n F a) j = stpV K nw wd n F a (1 + (j : Int)) ∧ stpE K nw wd n F a (1 + (j : Int)) = 0 := fun j hj => by
    have h1 := stp_less h (j := 1 + (j : Int)) (by omega) (by omega)
    obtain ⟨P, hP, _⟩ := stp_nat h1
    refine ⟨?_, h1⟩
    unfold numF sltL
    rw [e2, Int.toNat_natCast, List.getD_eq_getElem?_getD, List.getElem?_map, List.getElem?_range hj, Option.map_some]
    show (((stpV K nw (iniW K nw wd n F a (Hd.liveV R D) (R + D)) n F a (1 + (j : Int))).toNat : Nat) : Int) = _
    rw [(stp_words hv (iniW_valid (lv := Hd.liveV R D) hv (R + D) h) a _).2]
    omega
  obtain ⟨a1, a2⟩ := g (i - 1) (by omega)
  obtain ⟨b1, b2⟩ := g i hiR
  rw [a1, b1]
  intro e
  have := stp_inj a2 b2 e
  omega
end

set_option maxHeartbeats 8000000 in
theorem walkFresh8 (Al : Option Addr) (nl cl : Nat) (rf dt : Int) (w : World) (hL : ListP w w.heap.size Al nl cl) (i0 : -9223372036854775808 ≤ rf) (i1 : rf ≤ 9223372036854775807) (j0 : -9223372036854775808 ≤ dt) (j1 : dt ≤ 9223372036854775807) :
    Calls Try.prog 8 #[.slice Al nl cl, .int .i64 rf, .int .i64 dt] w fun e w' => e = .returned (.bool true) ∧ Below w.heap.size w w' := by
  go_enter Try.func8, Try.ntmps8
  go_wp2_with fail
  refine (deck_any Al nl cl w hL).mono ?_
  rintro e U2 ⟨rfl, hd, hb, hz⟩
  have HDK := Lib.hid hd
  have HBU2 := Lib.hid hb
  clear hd hb hL hz
  go_wp2_with fail
  refine (space_any w.heap.size U2 HDK.out).mono ?_
  rintro e U3 ⟨K, m, B, d, gb, d', wd, F, L, rfl, kk0, kk1, m0, m1, hoA, hoT, ⟨hvp, how, hu⟩, _, hG⟩
  have HBU3 := Lib.hid (below_turn HBU2.out hG (Nat.le_refl _))
  have HVP := Lib.hid hvp
  have HU64 := Lib.hid hu
  have hmk1 : m * 2 ^ K ≤ 16384 := prod_le (by omega) (by omega)
  obtain ⟨mk, hmk⟩ : ∃ mk, mk = m * 2 ^ K := ⟨_, rfl⟩
  rw [← hmk] at hoA HVP HU64 hmk1 ⊢
  obtain ⟨V, hV⟩ : ∃ V, V = U3.alloc (.cells #[.int .i64 K, .slice B mk d, .slice (some ⟨gb, 0, none⟩) m d'] 25) := ⟨_, rfl⟩
  have hbv : Below U3.heap.size U3 V := by rw [hV]; exact (Below.refl _ _).alloc (Nat.le_refl _) _
  have BY := Lib.hid (show Blk V U3.heap.size 25 #[.int .i64 K, .slice B mk d, .slice (some ⟨gb, 0, none⟩) m d'] by rw [hV]; exact Blk.new _ _ _)
  have HBV := Lib.hid (below_next HBU3.out (Nat.le_refl _) hbv)
  have HA := Lib.hid (hoA.arr.next hbv)
  have HT := Lib.hid (hoT.tab.next hbv)
  have HV := Lib.hid hV
  have q0 := BY.out.cell 0
  have q1 := BY.out.cell 1
  have q2 := BY.out.cell 2
  have qz := BY.out.lt
  simp at q0 q1 q2
  clear hV hbv HBU3 hG hoA hoT HDK HBU2 hvp how hu hmk
  obtain ⟨R, hR, hR1⟩ : ∃ R : Nat, rf % 16 = R ∧ R ≤ 15 := ⟨(rf % 16).toNat, by omega, by omega⟩
  obtain ⟨D, hD, hD1⟩ : ∃ D : Nat, dt % 33 = D ∧ D ≤ 32 := ⟨(dt % 33).toNat, by omega, by omega⟩
  have CM1 := mod_any rf 16 (by decide) (by decide) i0 i1
  have CM2 := mod_any dt 33 (by decide) (by decide) j0 j1
  rw [hR] at CM1
  rw [hD] at CM2
  clear hR hD
  go_upto_region 2 with fail
  rw [← HV.out]
  go_wp2_with fail
  refine (CM1 _).mono ?_
  rintro e w' ⟨rfl, rfl⟩
  go_wp2_with fail
  refine (CM2 _).mono ?_
  rintro e w' ⟨rfl, rfl⟩
  have hs : (1 + (R : Int) + D) = ((1 + R + D : Nat) : Int) := by omega
  have CA := alloc_any K B (some ⟨gb, 0, none⟩) mk d m d' wd F 80 3 (-1) (-1) 0 (1 + R + D) V HA.out HT.out HVP.out (by omega)
  rw [← hs] at CA
  clear hs
  go_wp2_with fail
  refine CA.mono ?_
  rintro e V1 ⟨v0, v1, v2, x0, x1, x2, x3, x4, ad, err, rfl, hb1, ⟨k1, A1, n1, c1, A2, n2, c2, rfl, rfl, rfl⟩, hok⟩
  have HOK := Lib.hid hok
  have HB1 := Lib.hid (below_next HBV.out (Nat.le_refl _) hb1)
  clear hok hb1 q0 q1 q2 CA
  obtain ⟨V2, hV2⟩ : ∃ V2, V2 = (V1.alloc (.cells #[.int .i64 k1, .slice A1 n1 c1, .slice A2 n2 c2] 25)).alloc (.cells #[.int .i64 x0, .int .i64 x1, .int .i64 x2, .int .i64 x3, .int .i64 x4] 59) := ⟨_, rfl⟩
  have hb2 : Below V1.heap.size V1 V2 := by rw [hV2]; exact ((Below.refl _ _).alloc (Nat.le_refl _) _).alloc (by simp) _
  have BT : Blk V2 V1.heap.size 25 #[.int .i64 k1, .slice A1 n1 c1, .slice A2 n2 c2] := by rw [hV2]; exact (Blk.new _ _ _).alloc _
  have HB2 := Lib.hid (below_next HB1.out (Nat.le_refl _) hb2)
  have HVV2 := Lib.hid hV2
  have zV1 : V1.heap.size < V2.heap.size := BT.lt
  by_cases he : err = 0
  · subst he
    obtain ⟨A3, c3, g3, c4, F3, first, last, sq, st, M, W, e0, e1, e2, hO3, hT3, hv3, hch, hst, ha, hW, hrest⟩ := HOK.out rfl
    clear hrest
    injection e0 with _ e0
    injection e1 with e1a e1b e1c
    injection e2 with e2a e2b e2c
    subst e0
    obtain rfl := e1a.symm
    obtain rfl := e1b.symm
    obtain rfl := e1c.symm
    obtain rfl := e2a.symm
    obtain rfl := e2b.symm
    obtain rfl := e2c.symm
    have hM0 : 0 < M := by
      rcases Nat.eq_zero_or_pos M with e | e
      · subst e; omega
      · exact e
    obtain ⟨p, rfl, hpn, hpo, hl⟩ := hch.len hv3.fv hst hM0
    have hs0 := (stB_yes hst).1
    have hstp : stpE K mk wd m F3 ad ((R + D : Nat) : Int) = 0 := by
      rw [ha]
      exact (addr_stp hv3 hpn (by omega) hl (P := W) (Q := R + D) (by omega)).1
    obtain ⟨P, hP, hPn⟩ := stp_nat (stp_less hstp (j := 0) (by omega) (by omega))
    rw [stp_self (stp_less hstp (j := 0) (by omega) (by omega))] at hP
    clear ha
    subst hP
    have HSTP := Lib.hid hstp
    have HV3 := Lib.hid hv3
    have HA3 := Lib.hid (show Arr V2 V2.heap.size A3 mk c3 wd from hO3.arr.next hb2)
    have HT3 := Lib.hid (show Tab V2 V2.heap.size (some ⟨g3, 0, none⟩) m c4 F3 from hT3.tab.next hb2)
    have HIE := Lib.hid (show iniE K mk wd m F3 P R D = 0 by rw [ini_in (validB_yes hv3) (by omega)]; exact hstp)
    have hbP : -9223372036854775808 ≤ (P : Int) ∧ (P : Int) ≤ 9223372036854775807 := by omega
    have HSH := Lib.hid (ini_shape hv3 hR1 hD1 hstp)
    have HSL := Lib.hid (fresh_slots hv3 hR1 hD1 hstp)
    have HFF := Lib.hid (fun t i => fresh_fld (K := K) hv3 HU64.out hR1 hD1 hstp t i)
    have HUW := Lib.hid (show U64w mk (iniW K mk wd m F3 P (Hd.liveV R D) (R + D)) from iniW_u64 HU64.out (by rw [(Hd.live_in (r := R) (d := D) (by omega)).1]; omega) (by rw [(Hd.live_in (r := R) (d := D) (by omega)).1]; omega) _)
    have t0 := BT.cell 0
    have t1 := BT.cell 1
    have t2 := BT.cell 2
    have tz := BT.lt
    simp at t0 t1 t2
    clear hstp hv3 hO3 hT3 hch hst hW hl hpo hb2 hV2 hs0
    go_upto_region 4 with fail
    rw [← HVV2.out]
    -- Init
    have CI := objInit_any K A3 (some ⟨g3, 0, none⟩) mk c3 m c4 wd F3 P R D V2 HA3.out HT3.out hbP.1 hbP.2 (by omega) (by omega) (by omega) (by omega)
    go_wp2_with fail
    refine CI.mono ?_
    rintro e Y1 (⟨y, h1, h2, _⟩ | ⟨_, A5, c5, g5, c6, rfl, ho, ht, hb⟩)
    · exact absurd (h1.symm.trans HIE.out) h2
    rw [show ((R : Int) + D).toNat = R + D by omega] at ho
    obtain ⟨W2, hW2⟩ : ∃ W2, W2 = iniW K mk wd m F3 P (Hd.liveV R D) (R + D) := ⟨_, rfl⟩
    rw [← hW2] at ho HSH HSL HFF HUW
    obtain ⟨Y, hY⟩ : ∃ Y, Y = Y1.alloc (.cells #[.int .i64 K, .slice A5 mk c5, .slice (some ⟨g5, 0, none⟩) m c6] 25) := ⟨_, rfl⟩
    have hby : Below Y1.heap.size Y1 Y := by rw [hY]; exact (Below.refl _ _).alloc (Nat.le_refl _) _
    have BU := Lib.hid (show Blk Y Y1.heap.size 25 #[.int .i64 K, .slice A5 mk c5, .slice (some ⟨g5, 0, none⟩) m c6] by rw [hY]; exact Blk.new _ _ _)
    have HA5 := Lib.hid (ho.arr.next hby)
    have HT5 := Lib.hid (ht.tab.next hby)
    have HBY := Lib.hid (below_next HB2.out (Nat.le_refl _) (below_next hb (Nat.le_refl _) hby))
    have HYY := Lib.hid hY
    obtain ⟨h1, h2, h3⟩ := HSH.out
    obtain ⟨hs1, hs2⟩ := HSL.out
    have HS2 := Lib.hid hs2
    clear ho ht hb hY hby CI t0 t1 t2 tz hW2 BT
    have u0 := BU.out.cell 0
    have u1 := BU.out.cell 1
    have u2 := BU.out.cell 2
    have uz := BU.out.lt
    simp at u0 u1 u2
    have CSH := objShape_any K A5 (some ⟨g5, 0, none⟩) mk c5 m c6 W2 F3 P Y HA5.out HT5.out HUW.out hbP.1 hbP.2
    rw [h1, h2, h3] at CSH
    clear h1 h2 h3
    go_upto_region 7 with fail
    rw [← HYY.out]
    go_wp2_with fail
    refine CSH.mono ?_
    rintro e Y2 ⟨rfl, hb⟩
    have BU2 := Lib.hid (BU.out.next hb)
    have HA6 := Lib.hid (HA5.out.next hb)
    have HT6 := Lib.hid (HT5.out.next hb)
    have HBY2 := Lib.hid (below_next HBY.out (Nat.le_refl _) hb)
    clear hb u0 u1 u2 uz CSH
    have u0 := BU2.out.cell 0
    have u1 := BU2.out.cell 1
    have u2 := BU2.out.cell 2
    have uz := BU2.out.lt
    simp at u0 u1 u2
    have CSL := objSlots_any K A5 (some ⟨g5, 0, none⟩) mk c5 m c6 W2 F3 P Y2 HA6.out HT6.out HUW.out hbP.1 hbP.2
    rw [HSH.out.1] at CSL
    go_wp2_with fail
    refine CSL.mono ?_
    rintro e Y3 ⟨A7, c7, rfl, hn7, hb⟩
    obtain ⟨sl, hsl⟩ : ∃ sl, sl = numF (sltL K mk W2 m F3 P) := ⟨_, rfl⟩
    rw [hs1] at hn7 ⊢
    rw [← hsl] at hn7 HS2
    have HN7 := Lib.hid hn7
    have BU3 := Lib.hid (BU2.out.next hb)
    have HA7 := Lib.hid (HA6.out.next hb)
    have HT7 := Lib.hid (HT6.out.next hb)
    have HBY3 := Lib.hid (below_next HBY2.out (Nat.le_refl _) hb)
    clear hb u0 u1 u2 uz CSL hn7 hsl hs1 hs2 HSL HSH
    go_wp2_with fail
    go_loopw [21, 22, 23, 101] (fun _ _ _ i wr => ∃ j : Nat, j ≤ R ∧ i = .int .i64 j ∧ Below Y3.heap.size Y3 wr) (fun _ _ _ i _ => R - (intOf i).toNat)
    case atStart => exact ⟨0, by omega, rfl, Below.refl _ _⟩
    case round =>
      obtain ⟨R0, rfl⟩ : ∃ R0, R0 = wr := ⟨_, rfl⟩
      obtain ⟨j, hj, rfl, hb⟩ := hrel
      have BU4 := BU3.out.next hb
      have HBR := Lib.hid hb
      clear hb
      by_cases hlt : j < R
      · have u0 := BU4.cell 0
        have u1 := BU4.cell 1
        have u2 := BU4.cell 2
        have uz := BU4.lt
        simp at u0 u1 u2
        obtain ⟨f1, f2⟩ := HFF.out true j (by show (j : Int) < R; omega)
        have CR := objRef_any K A5 (some ⟨g5, 0, none⟩) mk c5 m c6 W2 F3 P j R0 (HA7.out.next HBR.out) (HT7.out.next HBR.out) HUW.out hbP.1 hbP.2
        rw [f1, f2] at CR
        have hlt2 : (j : Int) < R := by omega
        clear f1 f2
        go_upto_region 14 with fail
        go_wp2_with fail
        refine CR.mono ?_
        rintro e R1 ⟨rfl, hb⟩
        have HBR1 := Lib.hid (below_next HBR.out (Nat.le_refl _) hb)
        have hn := HN7.out.next HBR1.out
        clear hb u0 u1 u2 uz CR BU4
        by_cases hj0 : j = 0
        · subst hj0
          clear hn
          go_upto_region 15 with fail
          go_quiet (fail)
          go_wp2
          exact ⟨⟨1, by omega, by first | rfl | go_num | simp, after_drawn _ HBR1.out⟩, by simp [intOf]; omega⟩
        · obtain ⟨b, o, rfl, hbz, hc1⟩ := hn.at_ j hlt
          obtain ⟨b', o', e, _, hc0⟩ := hn.at_ (j - 1) (by omega)
          injection e with e
          injection e with e1 e2
          subst e1 e2
          have hne := HS2.out j (by omega) hlt
          obtain ⟨x, hx⟩ : ∃ x, x = sl j := ⟨_, rfl⟩
          obtain ⟨y, hy⟩ : ∃ y, y = sl (j - 1) := ⟨_, rfl⟩
          rw [← hx, ← hy] at hne
          rw [← hx] at hc1
          rw [← hy] at hc0
          have hq : (y == x) = false := by simpa using hne
          have hgt : 0 < (j : Int) := by omega
          have hg2 : 0 < j := by omega
          have hd1 : decide (0 < j) = true := decide_eq_true hg2
          have hd2 : decide (0 < (j : Int)) = true := decide_eq_true hgt
          have s1 : IntKind.i64.wrap ((j : Int) - 1) = (j : Int) - 1 := IntWalk.i64_in _ (by omega)
          have s2 : ((j : Int) - 1).toNat = j - 1 := by omega
          have s3 : 0 ≤ (j : Int) - 1 ∧ (j : Int) - 1 < R := by omega
          have s4 : 0 ≤ (j : Int) ∧ (j : Int) < R := by omega
          clear hn hx hy hne
          go_upto_region 15 with fail
          go_quiet (fail)
          go_wp2
          exact ⟨⟨j + 1, by omega, by first | rfl | go_num | simp, after_drawn _ HBR1.out⟩, by simp [intOf]; omega⟩
      · obtain rfl : j = R := by omega
        have hlt2 : ¬ (j : Int) < j := by omega
        have HBK := Lib.hid (below_next HBY3.out (Nat.le_refl _) HBR.out)
        have BUK := Lib.hid BU4
        have HAK := Lib.hid (HA7.out.next HBR.out)
        have HTK := Lib.hid (HT7.out.next HBR.out)
        clear BU4 HBR HN7 HS2 BU3 HA7 HT7 HBY3
        go_wp2_with fail
        go_loopw [24, 25, 26] (fun i _ _ wr => ∃ k : Nat, k ≤ D ∧ i = .int .i64 k ∧ Below R0.heap.size R0 wr) (fun i _ _ _ => D - (intOf i).toNat)
        case atStart => exact ⟨0, by omega, rfl, Below.refl _ _⟩
        case round =>
          obtain ⟨S0, rfl⟩ : ∃ S0, S0 = wr := ⟨_, rfl⟩
          obtain ⟨k, hk, rfl, hb⟩ := hrel
          have BU5 := BUK.out.next hb
          have HBS := Lib.hid hb
          clear hb
          by_cases hlt : k < D
          · have u0 := BU5.cell 0
            have u1 := BU5.cell 1
            have u2 := BU5.cell 2
            have uz := BU5.lt
            simp at u0 u1 u2
            obtain ⟨f1, f2⟩ := HFF.out false k (by show (k : Int) < D; omega)
            have CR := objData_any K A5 (some ⟨g5, 0, none⟩) mk c5 m c6 W2 F3 P k S0 (HAK.out.next HBS.out) (HTK.out.next HBS.out) HUW.out hbP.1 hbP.2
            rw [f1, f2] at CR
            have hlt3 : (k : Int) < D := by omega
            clear f1 f2
            go_wp2_with fail
            refine CR.mono ?_
            rintro e S1 ⟨rfl, hb⟩
            have HBS1 := Lib.hid (below_next HBS.out (Nat.le_refl _) hb)
            clear hb u0 u1 u2 uz CR BU5
            go_wp2_with fail
            go_roundw
            case rel => exact ⟨k + 1, by omega, by first | rfl | go_num | simp, HBS1.out⟩
            case measure => simp [intOf]; omega
          · obtain rfl : k = D := by omega
            have hlt3 : ¬ (k : Int) < k := by omega
            clear BU5
            go_wp2_with fail
            refine (awake8_any S0).mono ?_
            rintro e w9 ⟨rfl, hb9⟩
            have HB9 := Lib.hid (below_next HBK.out (Nat.le_refl _) (below_next HBS.out (Nat.le_refl _) hb9))
            clear hb9
            go_wp2_with fail
            go_ret
            exact ⟨rfl, HB9.out⟩
  · have hne : (err != 0) = true := by simpa using he
    clear he HOK hV2
    go_upto_region 4 with fail
    rw [← HVV2.out]
    go_wp2_with fail
    refine (awake8_any V2).mono ?_
    rintro e w9 ⟨rfl, hb9⟩
    have HB9 := Lib.hid (below_next HB2.out (Nat.le_refl _) hb9)
    clear hb9
    go_wp2_with fail
    go_ret
    exact ⟨rfl, HB9.out⟩
end Go.Proofs.Ytfjdafnejhgijaa
