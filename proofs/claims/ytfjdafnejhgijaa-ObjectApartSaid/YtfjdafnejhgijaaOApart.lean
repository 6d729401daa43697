/-
  The walk of ObjectApart. (Written by wip/tools/mkapart-s8.py.)
-/
import Derived.Test.YtfjdafnejhgijaaOk
import Derived.Deep.CutBlock
import Derived.Deep.DeepCutAuto
namespace Go.Proofs.Ytfjdafnejhgijaa
open Go.RowKit
set_option maxRecDepth 100000
set_option linter.unusedVariables false

/-- The fields of one object stay, where a field of another one was set: for the law's two loops. -/
def Stays (K mk m : Nat) (wd W2 : Nat → Int) (F : Nat → Fr) (Y : Nat) (t : Bool) (N : Nat) : Prop := ∀ n : Nat, n < N → plcE K mk wd m F Y n t = 0 ∧ plcE K mk W2 m F Y n t = 0 ∧ getV K mk W2 m F Y n t = getV K mk wd m F Y n t

set_option maxHeartbeats 16000000 in
theorem walkApart8 (Al : Option Addr) (nl cl : Nat) (a i b_ v : Int) (w : World) (hL : ListP w w.heap.size Al nl cl) (i0 : -9223372036854775808 ≤ a) (i1 : a ≤ 9223372036854775807) (j0 : -9223372036854775808 ≤ i) (j1 : i ≤ 9223372036854775807) (k0 : -9223372036854775808 ≤ b_) (k1 : b_ ≤ 9223372036854775807) (v0 : 0 ≤ v) (v1 : v < 18446744073709551616) :
    Calls Try.prog 7 #[.slice Al nl cl, .int .i64 a, .int .i64 i, .int .i64 b_, .int .u64 v] w fun e w' => e = .returned (.bool true) ∧ Below w.heap.size w w' := by
  go_enter Try.func7, Try.ntmps7
  go_wp2_with fail
  refine (deck_any Al nl cl w hL).mono ?_
  rintro e U2 ⟨rfl, hd, hb, hz⟩
  have HDK := Lib.hid hd
  have HBU2 := Lib.hid hb
  clear hd hb hL hz
  go_wp2_with fail
  refine (space_any w.heap.size U2 HDK.out).mono ?_
  rintro e U3 ⟨K, m, B, d, gb, d', wd, F, L, rfl, kk0, kk1, m0, m1, hoA, hoT, ⟨hvp, how, hu⟩, ⟨_, I, BI, hBI, hLR, hAll⟩, hG⟩
  have HBU3 := Lib.hid (below_turn HBU2.out hG (Nat.le_refl _))
  have HVP := Lib.hid hvp
  have HU64 := Lib.hid hu
  have HALL := Lib.hid hAll
  have hmk1 : m * 2 ^ K ≤ 16384 := prod_le (by omega) (by omega)
  obtain ⟨mk, hmk⟩ : ∃ mk, mk = m * 2 ^ K := ⟨_, rfl⟩
  rw [← hmk] at hoA HVP HU64 hmk1 ⊢
  obtain ⟨V, hV⟩ : ∃ V, V = U3.alloc (.cells #[.int .i64 K, .slice B mk d, .slice (some ⟨gb, 0, none⟩) m d'] 25) := ⟨_, rfl⟩
  have hbv : Below U3.heap.size U3 V := by rw [hV]; exact (Below.refl _ _).alloc (Nat.le_refl _) _
  have BY := Lib.hid (show Blk V U3.heap.size 25 #[.int .i64 K, .slice B mk d, .slice (some ⟨gb, 0, none⟩) m d'] by rw [hV]; exact Blk.new _ _ _)
  have HBV := Lib.hid (below_next HBU3.out (Nat.le_refl _) hbv)
  have HA := Lib.hid (hoA.arr.next hbv)
  have HT := Lib.hid (hoT.tab.next hbv)
  have HLV := Lib.hid (hLR.below hbv)
  have HV := Lib.hid hV
  have q0 := BY.out.cell 0
  have q1 := BY.out.cell 1
  have q2 := BY.out.cell 2
  have qz := BY.out.lt
  simp at q0 q1 q2
  clear hV hbv HBU3 hG hoA hoT HDK HBU2 hvp how hu hmk hLR hAll hBI
  have CO := objects_any K B (some ⟨gb, 0, none⟩) mk d m d' wd F I BI U3.heap.size L V HA.out HT.out HVP.out HU64.out HALL.out HLV.out
  go_upto_region 2 with fail
  rw [← HV.out]
  go_wp2_with fail
  refine CO.mono ?_
  rintro e V1 ⟨l, ⟨A3, c3, rfl, hn3, hb1⟩, hobs, hlen⟩
  have HOBS := Lib.hid hobs
  have HN3 := Lib.hid hn3
  have BY1 := Lib.hid (BY.out.next hb1)
  have HA1 := Lib.hid (HA.out.next hb1)
  have HT1 := Lib.hid (HT.out.next hb1)
  have HB1 := Lib.hid (below_next HBV.out (Nat.le_refl _) hb1)
  clear hobs hn3 hb1 q0 q1 q2 qz CO BY HA HT HBV HLV HV
  by_cases hl0 : (l.length : Int) < 2
  · go_wp2_with fail
    refine (awake8_any V1).mono ?_
    rintro e w9 ⟨rfl, hb9⟩
    have HB9 := Lib.hid (below_next HB1.out (Nat.le_refl _) hb9)
    clear hb9
    go_wp2_with fail
    go_ret
    exact ⟨rfl, HB9.out⟩
  · have CM1 := mod_any a (l.length : Int) (by omega) (by omega) i0 i1
    have CM3 := mod_any b_ (l.length : Int) (by omega) (by omega) k0 k1
    obtain ⟨jx, hjx, hjl⟩ : ∃ j : Nat, a % (l.length : Int) = j ∧ j < l.length := by
      have h1 := Int.emod_nonneg a (show (l.length : Int) ≠ 0 by omega)
      have h2 := Int.emod_lt_of_pos a (show 0 < (l.length : Int) by omega)
      exact ⟨(a % (l.length : Int)).toNat, by omega, by omega⟩
    obtain ⟨jy, hjy, hjyl⟩ : ∃ j : Nat, b_ % (l.length : Int) = j ∧ j < l.length := by
      have h1 := Int.emod_nonneg b_ (show (l.length : Int) ≠ 0 by omega)
      have h2 := Int.emod_lt_of_pos b_ (show 0 < (l.length : Int) by omega)
      exact ⟨(b_ % (l.length : Int)).toNat, by omega, by omega⟩
    rw [hjx] at CM1
    rw [hjy] at CM3
    obtain ⟨b3, o3, rfl, hb3, hcj⟩ := HN3.out.at_ jx hjl
    obtain ⟨_, _, e1, _, hcy⟩ := HN3.out.at_ jy hjyl
    injection e1 with e1
    injection e1 with e1 e2
    subst e1 e2
    obtain ⟨X, hX⟩ : ∃ X : Nat, X = l.getD jx 0 := ⟨_, rfl⟩
    obtain ⟨Y8, hY8⟩ : ∃ X : Nat, X = l.getD jy 0 := ⟨_, rfl⟩
    have hcj' : V1.cell? ⟨b3, o3 + jx, none⟩ = some (.int .i64 (X : Int)) := by rw [hX]; exact hcj
    have hcy' : V1.cell? ⟨b3, o3 + jy, none⟩ = some (.int .i64 (Y8 : Int)) := by rw [hY8]; exact hcy
    have hXlt : X < mk := by rw [hX]; exact HOBS.out.lt hjl
    have hYlt : Y8 < mk := by rw [hY8]; exact HOBS.out.lt hjyl
    have HXX := Lib.hid hX
    have HYY8 := Lib.hid hY8
    have HSX := Lib.hid (show shpE K mk wd m F X = 0 by rw [hX]; exact objs_shape HOBS.out hjl)
    have HSY := Lib.hid (show shpE K mk wd m F Y8 = 0 by rw [hY8]; exact objs_shape HOBS.out hjyl)
    have hr := shp_range (s := K) (n := m) (F := F) (a := (X : Int)) HU64.out
    have hry := shp_range (s := K) (n := m) (F := F) (a := (Y8 : Int)) HU64.out
    obtain ⟨R, hR⟩ : ∃ R : Nat, shpR K mk wd m F X = R := ⟨(shpR K mk wd m F X).toNat, by omega⟩
    obtain ⟨D, hD⟩ : ∃ D : Nat, shpD K mk wd m F X = D := ⟨(shpD K mk wd m F X).toNat, by omega⟩
    obtain ⟨R2, hR2⟩ : ∃ R : Nat, shpR K mk wd m F Y8 = R := ⟨(shpR K mk wd m F Y8).toNat, by omega⟩
    obtain ⟨D2, hD2⟩ : ∃ D : Nat, shpD K mk wd m F Y8 = D := ⟨(shpD K mk wd m F Y8).toNat, by omega⟩
    have CS := objShape_any K B (some ⟨gb, 0, none⟩) mk d m d' wd F X V1 HA1.out HT1.out HU64.out (by omega) (by omega)
    rw [HSX.out, hR, hD] at CS
    have CSY := Lib.hid (show ∀ W, Below V1.heap.size V1 W → Calls Try.prog 19 #[.agg #[.int .i64 K, .slice B mk d, .slice (some ⟨gb, 0, none⟩) m d'], .int .i64 Y8] W (Gives3 R2 D2 0 W) from fun W hW => by
      have h := objShape_any K B (some ⟨gb, 0, none⟩) mk d m d' wd F Y8 W (HA1.out.next hW) (HT1.out.next hW) HU64.out (by omega) (by omega)
      rw [HSY.out, hR2, hD2] at h
      exact h)
    rw [hR, hD] at hr
    rw [hR2, hD2] at hry
    have HR := Lib.hid hR
    have HD := Lib.hid hD
    have HR2 := Lib.hid hR2
    have HD2 := Lib.hid hD2
    have hj2 : 0 ≤ (jx : Int) ∧ (jx : Int) < (l.length : Int) := by omega
    have hj3 : 0 ≤ (jy : Int) ∧ (jy : Int) < (l.length : Int) := by omega
    have q0 := BY1.out.cell 0
    have q1 := BY1.out.cell 1
    have q2 := BY1.out.cell 2
    have qz := BY1.out.lt
    simp at q0 q1 q2
    clear hcj hcy hX hY8 hjx hjy hR hD hR2 hD2
    go_wp2_with fail
    refine (CM1 _).mono ?_
    rintro e w' ⟨rfl, rfl⟩
    go_wp2_with fail
    refine (CM3 _).mono ?_
    rintro e w' ⟨rfl, rfl⟩
    go_wp2_with fail
    refine CS.mono ?_
    rintro e V2 ⟨rfl, hb2⟩
    have BY2 := Lib.hid (BY1.out.next hb2)
    have HA2 := Lib.hid (HA1.out.next hb2)
    have HT2 := Lib.hid (HT1.out.next hb2)
    have HB2 := Lib.hid (below_next HB1.out (Nat.le_refl _) hb2)
    have HV12 := Lib.hid hb2
    clear hb2 q0 q1 q2 qz CM1 CM3 CS hcj' hcy' BY1 HA1 HT1 HB1 HN3
    by_cases hskip : X = Y8 ∨ R + D = 0
    · have hs0 : (X : Int) ≠ Y8 → (R : Int) + D = 0 := fun h => by rcases hskip with h1 | h1; exact absurd (by rw [h1]) h; omega
      by_cases hxy : X = Y8
      · subst hxy
        have hb0 : ((X : Int) == (X : Int)) = true := by simp
        clear hskip hs0
        go_wp2_with fail
        refine (awake8_any V2).mono ?_
        rintro e w9 ⟨rfl, hb9⟩
        have HB9 := Lib.hid (below_next HB2.out (Nat.le_refl _) hb9)
        clear hb9
        go_wp2_with fail
        go_ret
        exact ⟨rfl, HB9.out⟩
      · have hb0 : ((X : Int) == (Y8 : Int)) = false := by rw [beq_eq_false_iff_ne]; omega
        have hb1 : ((R : Int) + D == 0) = true := by rw [beq_iff_eq]; exact hs0 (by omega)
        clear hskip hs0 hxy
        go_wp2_with fail
        refine (awake8_any V2).mono ?_
        rintro e w9 ⟨rfl, hb9⟩
        have HB9 := Lib.hid (below_next HB2.out (Nat.le_refl _) hb9)
        clear hb9
        go_wp2_with fail
        go_ret
        exact ⟨rfl, HB9.out⟩
    · have hxy : X ≠ Y8 := fun h => hskip (.inl h)
      have hsum : R + D ≠ 0 := fun h => hskip (.inr h)
      have hjne : jx ≠ jy := fun h => hxy (by rw [HXX.out, HYY8.out, h])
      have hb0 : ((X : Int) == (Y8 : Int)) = false := by rw [beq_eq_false_iff_ne]; omega
      have hb1 : ((R : Int) + D == 0) = false := by rw [beq_eq_false_iff_ne]; omega
      have CM2 := mod_any i ((R : Int) + D) (by omega) (by omega) j0 j1
      obtain ⟨k, hk, hkl⟩ : ∃ j : Nat, i % ((R : Int) + D) = j ∧ j < R + D := by
        have h1 := Int.emod_nonneg i (show (R : Int) + D ≠ 0 by omega)
        have h2 := Int.emod_lt_of_pos i (show 0 < (R : Int) + D by omega)
        exact ⟨(i % ((R : Int) + D)).toNat, by omega, by omega⟩
      rw [hk] at CM2
      have HSTAY := Lib.hid (show ∀ (i' : Int) (t : Bool), plcE K mk wd m F X i' t = 0 → ∀ (t2 : Bool) (N : Nat), (N : Int) ≤ fldN K mk wd m F Y8 t2 → Stays K mk m wd (setW K mk wd m F X i' t v) F Y8 t2 N from fun i' t hp t2 N hN n hn => by
        have p1 := (plc_ok (i := (n : Int)) (t := t2) HSY.out (by omega) (by omega)).1
        have hh := set_head (v := v) (i := i') (t := t) HU64.out HVP.out HALL.out HOBS.out hjl hjyl (by rw [← HXX.out]; exact hp)
        rw [← HXX.out, ← HYY8.out] at hh
        have hf := set_field (v := v) (i := i') (t := t) (i' := (n : Int)) (t' := t2) HU64.out HVP.out HALL.out HOBS.out hjl hjyl hjne (by rw [← HXX.out]; exact hp)
        rw [← HXX.out, ← HYY8.out] at hf
        exact ⟨p1, (plc_same HVP.out (set_valid HVP.out HU64.out hp) hh).1.trans p1, hf⟩)
      have q0 := BY2.out.cell 0
      have q1 := BY2.out.cell 1
      have q2 := BY2.out.cell 2
      have qz := BY2.out.lt
      simp at q0 q1 q2
      clear hk hskip hxy hsum hjne
      go_wp2_with fail
      refine (CM2 _).mono ?_
      rintro e w' ⟨rfl, rfl⟩
      clear CM2 hb0 hb1
      by_cases hkR : k < R
      · have HPL := Lib.hid (show plcE K mk wd m F X k true = 0 from (plc_ok HSX.out (by omega) (by unfold fldN; rw [if_pos rfl, HR.out]; omega)).1)
        have HSU := Lib.hid (set_u64 (K := K) (n := m) (F := F) (a := (X : Int)) (i := (k : Int)) (t := true) HU64.out v0 v1)
        obtain ⟨W2, hW2⟩ : ∃ W2, W2 = setW K mk wd m F X k true v := ⟨_, rfl⟩
        have HW2 := Lib.hid hW2
        have CD := objSetRef_any K B (some ⟨gb, 0, none⟩) mk d m d' wd F X k v V2 HA2.out HT2.out HU64.out (by omega) (by omega)
        have hkR2 : ¬ (R : Int) ≤ k := by omega
        go_wp2_with fail
        refine CD.mono ?_
        intro e V3 hset
        obtain ⟨A5, c5, g5, c6, rfl, ho, ht, hb⟩ := hset.ok HPL.out
        rw [← hW2] at ho HSU
        obtain ⟨b5, o5, rfl, hz5, _⟩ := ho.arr.at_ 0 (by omega)
        obtain ⟨P8, hY⟩ : ∃ Y, Y = V3.alloc (.cells #[.int .i64 K, .slice (some ⟨b5, o5, none⟩) mk c5, .slice (some ⟨g5, 0, none⟩) m c6] 25) := ⟨_, rfl⟩
        have hby : Below V3.heap.size V3 P8 := by rw [hY]; exact (Below.refl _ _).alloc (Nat.le_refl _) _
        have hbY := below_next hb (Nat.le_refl _) hby
        have BTa := Lib.hid (show Blk P8 V3.heap.size 25 #[.int .i64 K, .slice (some ⟨b5, o5, none⟩) mk c5, .slice (some ⟨g5, 0, none⟩) m c6] by rw [hY]; exact Blk.new _ _ _)
        have HAa := Lib.hid (show Arr P8 P8.heap.size (some ⟨b5, o5, none⟩) mk c5 W2 from ho.arr.next hby)
        have HTa := Lib.hid (show Tab P8 P8.heap.size (some ⟨g5, 0, none⟩) m c6 F from ht.tab.next hby)
        have BSa := Lib.hid (BY2.out.next hbY)
        have HAs := Lib.hid (HA2.out.next hbY)
        have HTs := Lib.hid (HT2.out.next hbY)
        have HBa := Lib.hid (below_next HB2.out (Nat.le_refl _) hbY)
        have HV1P := Lib.hid (below_next HV12.out (Nat.le_refl _) hbY)
        obtain ⟨T, hT⟩ : ∃ T, T = V3.heap.size := ⟨_, rfl⟩
        rw [← hT] at BTa
        have HTT := Lib.hid hT
        have HYY := Lib.hid hY
        clear ho ht hb hby hbY hY CD q0 q1 q2 qz hset BY2 HA2 HT2 HB2 HV12 hT hW2 hz5
        go_upto_region 14 with fail
        rw [← HYY.out, ← HTT.out]
        have HSR := Lib.hid (HSTAY.out (k : Int) true HPL.out true R2 (by unfold fldN; rw [if_pos rfl, HR2.out]; omega))
        have HSD := Lib.hid (HSTAY.out (k : Int) true HPL.out false D2 (by unfold fldN; rw [if_neg (by decide), HD2.out]; omega))
        rw [← HW2.out] at HSR HSD
        have q0 := BSa.out.cell 0
        have q1 := BSa.out.cell 1
        have q2 := BSa.out.cell 2
        have qz := BSa.out.lt
        simp at q0 q1 q2
        have CY := CSY.out P8 HV1P.out
        clear HSTAY CSY
        go_wp2_with fail
        refine CY.mono ?_
        rintro e P9 ⟨rfl, hb⟩
        have BTb := Lib.hid (BTa.out.next hb)
        have HAb := Lib.hid (HAa.out.next hb)
        have HTb := Lib.hid (HTa.out.next hb)
        have BSb := Lib.hid (BSa.out.next hb)
        have HAc := Lib.hid (HAs.out.next hb)
        have HTc := Lib.hid (HTs.out.next hb)
        have HBb := Lib.hid (below_next HBa.out (Nat.le_refl _) hb)
        clear hb q0 q1 q2 qz CY BTa HAa HTa BSa HAs HTs HBa HV1P
        go_wp2_with fail
        go_loopw [23, 24, 25, 26, 27] (fun n _ _ _ _ wr => ∃ j : Nat, j ≤ R2 ∧ n = .int .i64 j ∧ Below P9.heap.size P9 wr) (fun n _ _ _ _ _ => R2 - (intOf n).toNat)
        case atStart => exact ⟨0, by omega, rfl, Below.refl _ _⟩
        case round =>
          obtain ⟨R0, rfl⟩ : ∃ R0, R0 = wr := ⟨_, rfl⟩
          obtain ⟨j, hj, rfl, hb⟩ := hrel
          have HBR := Lib.hid hb
          clear hb
          by_cases hlt : j < R2
          · have BT0 := BTb.out.next HBR.out
            have BS0 := BSb.out.next HBR.out
            have q0 := BS0.cell 0
            have q1 := BS0.cell 1
            have q2 := BS0.cell 2
            have qz := BS0.lt
            simp at q0 q1 q2
            obtain ⟨h1, h2, h3⟩ := HSR.out j hlt
            obtain ⟨x, hx⟩ : ∃ x, getV K mk wd m F Y8 j true = x := ⟨_, rfl⟩
            have C1 := objRef_any K B (some ⟨gb, 0, none⟩) mk d m d' wd F Y8 j R0 (HAc.out.next HBR.out) (HTc.out.next HBR.out) HU64.out (by omega) (by omega)
            rw [h1, hx] at C1
            have C2 := Lib.hid (show ∀ W, Below R0.heap.size R0 W → Calls Try.prog 24 #[.agg #[.int .i64 K, .slice (some ⟨b5, o5, none⟩) mk c5, .slice (some ⟨g5, 0, none⟩) m c6], .int .i64 Y8, .int .i64 j] W (GivesW x 0 W) from fun W hW => by
              have h := objRef_any K (some ⟨b5, o5, none⟩) (some ⟨g5, 0, none⟩) mk c5 m c6 W2 F Y8 j W ((HAb.out.next HBR.out).next hW) ((HTb.out.next HBR.out).next hW) HSU.out (by omega) (by omega)
              rw [h2, h3, hx] at h
              exact h)
            have hlt2 : (j : Int) < R2 := by omega
            clear h1 h2 h3 hx
            go_wp2_with fail
            refine C1.mono ?_
            rintro e R1 ⟨rfl, hb⟩
            have HR1 := Lib.hid hb
            have BT1 := BT0.next hb
            clear hb q0 q1 q2 qz C1 BT0 BS0
            have q0 := BT1.cell 0
            have q1 := BT1.cell 1
            have q2 := BT1.cell 2
            have qz := BT1.lt
            simp at q0 q1 q2
            go_wp2_with fail
            refine (C2.out _ HR1.out).mono ?_
            rintro e R3 ⟨rfl, hb⟩
            have HR3 := Lib.hid (below_next HBR.out (Nat.le_refl _) (below_next HR1.out (Nat.le_refl _) hb))
            clear hb q0 q1 q2 qz C2 BT1
            go_wp2_with fail
            go_roundw
            case rel => exact ⟨j + 1, by omega, by first | rfl | go_num | simp, HR3.out⟩
            case measure => simp [intOf]; omega
          · obtain rfl : j = R2 := by omega
            have hlt2 : ¬ (j : Int) < j := by omega
            have BTd := Lib.hid (BTb.out.next HBR.out)
            have HAd := Lib.hid (HAb.out.next HBR.out)
            have HTd := Lib.hid (HTb.out.next HBR.out)
            have BSd := Lib.hid (BSb.out.next HBR.out)
            have HAe := Lib.hid (HAc.out.next HBR.out)
            have HTe := Lib.hid (HTc.out.next HBR.out)
            have HBd := Lib.hid (below_next HBb.out (Nat.le_refl _) HBR.out)
            obtain ⟨P10, rfl⟩ : ∃ P, P = R0 := ⟨_, rfl⟩
            clear BTb HAb HTb BSb HAc HTc HBb HBR HSR
            go_wp2_with fail
            go_loopw [28, 29, 30, 31, 32] (fun n _ _ _ _ wr => ∃ j : Nat, j ≤ D2 ∧ n = .int .i64 j ∧ Below P10.heap.size P10 wr) (fun n _ _ _ _ _ => D2 - (intOf n).toNat)
            case atStart => exact ⟨0, by omega, rfl, Below.refl _ _⟩
            case round =>
              obtain ⟨R0, rfl⟩ : ∃ R0, R0 = wr := ⟨_, rfl⟩
              obtain ⟨j, hj, rfl, hb⟩ := hrel
              have HBR := Lib.hid hb
              clear hb
              by_cases hlt : j < D2
              · have BT0 := BTd.out.next HBR.out
                have BS0 := BSd.out.next HBR.out
                have q0 := BS0.cell 0
                have q1 := BS0.cell 1
                have q2 := BS0.cell 2
                have qz := BS0.lt
                simp at q0 q1 q2
                obtain ⟨h1, h2, h3⟩ := HSD.out j hlt
                obtain ⟨x, hx⟩ : ∃ x, getV K mk wd m F Y8 j false = x := ⟨_, rfl⟩
                have C1 := objData_any K B (some ⟨gb, 0, none⟩) mk d m d' wd F Y8 j R0 (HAe.out.next HBR.out) (HTe.out.next HBR.out) HU64.out (by omega) (by omega)
                rw [h1, hx] at C1
                have C2 := Lib.hid (show ∀ W, Below R0.heap.size R0 W → Calls Try.prog 28 #[.agg #[.int .i64 K, .slice (some ⟨b5, o5, none⟩) mk c5, .slice (some ⟨g5, 0, none⟩) m c6], .int .i64 Y8, .int .i64 j] W (GivesW x 0 W) from fun W hW => by
                  have h := objData_any K (some ⟨b5, o5, none⟩) (some ⟨g5, 0, none⟩) mk c5 m c6 W2 F Y8 j W ((HAd.out.next HBR.out).next hW) ((HTd.out.next HBR.out).next hW) HSU.out (by omega) (by omega)
                  rw [h2, h3, hx] at h
                  exact h)
                have hlt2 : (j : Int) < D2 := by omega
                clear h1 h2 h3 hx
                go_wp2_with fail
                refine C1.mono ?_
                rintro e R1 ⟨rfl, hb⟩
                have HR1 := Lib.hid hb
                have BT1 := BT0.next hb
                clear hb q0 q1 q2 qz C1 BT0 BS0
                have q0 := BT1.cell 0
                have q1 := BT1.cell 1
                have q2 := BT1.cell 2
                have qz := BT1.lt
                simp at q0 q1 q2
                go_wp2_with fail
                refine (C2.out _ HR1.out).mono ?_
                rintro e R3 ⟨rfl, hb⟩
                have HR3 := Lib.hid (below_next HBR.out (Nat.le_refl _) (below_next HR1.out (Nat.le_refl _) hb))
                clear hb q0 q1 q2 qz C2 BT1
                go_wp2_with fail
                go_roundw
                case rel => exact ⟨j + 1, by omega, by first | rfl | go_num | simp, HR3.out⟩
                case measure => simp [intOf]; omega
              · obtain rfl : j = D2 := by omega
                have hlt2 : ¬ (j : Int) < j := by omega
                go_wp2_with fail
                refine (awake8_any R0).mono ?_
                rintro e w9 ⟨rfl, hb9⟩
                have HB9 := Lib.hid (below_next HBd.out (Nat.le_refl _) (below_next HBR.out (Nat.le_refl _) hb9))
                clear hb9
                go_wp2_with fail
                go_ret
                exact ⟨rfl, HB9.out⟩
      · have HPL := Lib.hid (show plcE K mk wd m F X ((k - R : Nat) : Int) false = 0 from (plc_ok HSX.out (by omega) (by unfold fldN; rw [if_neg (by decide), HD.out]; omega)).1)
        have HSU := Lib.hid (set_u64 (K := K) (n := m) (F := F) (a := (X : Int)) (i := ((k - R : Nat) : Int)) (t := false) HU64.out v0 v1)
        obtain ⟨W2, hW2⟩ : ∃ W2, W2 = setW K mk wd m F X ((k - R : Nat) : Int) false v := ⟨_, rfl⟩
        have HW2 := Lib.hid hW2
        have CD := objSetRef_any K B (some ⟨gb, 0, none⟩) mk d m d' wd F X k v V2 HA2.out HT2.out HU64.out (by omega) (by omega)
        have hkR2 : (R : Int) ≤ k := by omega
        go_wp2_with fail
        refine CD.mono ?_
        intro e V3 hset
        obtain ⟨k7, A7, n7, c7, A8, n8, c8, y7, rfl, hb⟩ := hset.any
        obtain ⟨Y, hY⟩ : ∃ Y, Y = V3.alloc (.cells #[.int .i64 k7, .slice A7 n7 c7, .slice A8 n8 c8] 25) := ⟨_, rfl⟩
        have hby : Below V3.heap.size V3 Y := by rw [hY]; exact (Below.refl _ _).alloc (Nat.le_refl _) _
        have hbY := below_next hb (Nat.le_refl _) hby
        have BT := Lib.hid (show Blk Y V3.heap.size 25 #[.int .i64 k7, .slice A7 n7 c7, .slice A8 n8 c8] by rw [hY]; exact Blk.new _ _ _)
        have BY3 := Lib.hid (BY2.out.next hbY)
        have HA3 := Lib.hid (HA2.out.next hbY)
        have HT3 := Lib.hid (HT2.out.next hbY)
        have HB3 := Lib.hid (below_next HB2.out (Nat.le_refl _) hbY)
        have HV13 := Lib.hid (below_next HV12.out (Nat.le_refl _) hbY)
        have zT : U3.heap.size < V3.heap.size := by have := BY2.out.lt; have := hb.size; omega
        have hwT : w.heap.size ≤ V3.heap.size := by have := HB2.out.size; have := hb.size; omega
        have hvT : V1.heap.size ≤ V3.heap.size := by have := HV12.out.size; have := hb.size; omega
        obtain ⟨T, hT⟩ : ∃ T, T = V3.heap.size := ⟨_, rfl⟩
        rw [← hT] at BT zT hwT hvT
        have HTT := Lib.hid hT
        have HYY := Lib.hid hY
        clear hb hby hbY hY CD q0 q1 q2 qz hset BY2 HA2 HT2 HB2 HV12 hT
        go_upto_region 14 with fail
        rw [← HYY.out, ← HTT.out]
        have hs1 : (k : Int) - R = ((k - R : Nat) : Int) := by omega
        have CR := objSetData_any K B (some ⟨gb, 0, none⟩) mk d m d' wd F X ((k - R : Nat) : Int) v Y HA3.out HT3.out HU64.out (by omega) (by omega)
        rw [← hs1] at CR
        have HS1 := Lib.hid hs1
        have q0 := BY3.out.cell 0
        have q1 := BY3.out.cell 1
        have q2 := BY3.out.cell 2
        have qz := BY3.out.lt
        simp at q0 q1 q2
        clear hs1
        go_wp2_with fail
        refine CR.mono ?_
        intro e V4 hset
        rw [HS1.out] at hset
        obtain ⟨A5, c5, g5, c6, rfl, ho, ht, hb⟩ := hset.ok HPL.out
        rw [← hW2] at ho HSU
        obtain ⟨b5, o5, rfl, hz5, _⟩ := ho.arr.at_ 0 (by omega)
        have BT1 := BT.out.next hb
        have t0 := BT1.cell 0
        have t1 := BT1.cell 1
        have t2 := BT1.cell 2
        have tz := BT1.lt
        simp at t0 t1 t2
        have f0 := BT1.frozen 0
        have f1 := BT1.frozen 1
        have f2 := BT1.frozen 2
        obtain ⟨P8, hY2⟩ : ∃ Y2, Y2 = ((V4.setCell ⟨T, 0, none⟩ (.int .i64 K)).setCell ⟨T, 1, none⟩ (.slice (some ⟨b5, o5, none⟩) mk c5)).setCell ⟨T, 2, none⟩ (.slice (some ⟨g5, 0, none⟩) m c6) := ⟨_, rfl⟩
        have zTY : T < Y.heap.size := BT.out.lt
        have BTa := Lib.hid (show Blk P8 T 25 #[.int .i64 K, .slice (some ⟨b5, o5, none⟩) mk c5, .slice (some ⟨g5, 0, none⟩) m c6] by rw [hY2]; exact ((BT1.set_ 0 _).set_ 1 _).set_ 2 _)
        have HAa := Lib.hid (show Arr P8 P8.heap.size (some ⟨b5, o5, none⟩) mk c5 W2 by rw [hY2]; exact (ho.put3 zTY _ _ _).arr)
        have HTa := Lib.hid (show Tab P8 P8.heap.size (some ⟨g5, 0, none⟩) m c6 F by rw [hY2]; exact (ht.put3 zTY _ _ _).tab)
        have keep : ∀ b', b' < Y.heap.size → b' ≠ T → P8.heap[b']? = Y.heap[b']? := fun b' h1 h2 => by
          rw [hY2]
          exact ((Below.heap_setCell _ ⟨T, 2, none⟩ _ b' h2).trans ((Below.heap_setCell _ ⟨T, 1, none⟩ _ b' h2).trans (Below.heap_setCell V4 ⟨T, 0, none⟩ _ b' h2))).trans (hb.block b' h1)
        have hsz : Y.heap.size ≤ P8.heap.size := by rw [hY2]; simpa using hb.size
        have BSa := Lib.hid (show Blk P8 U3.heap.size 25 #[.int .i64 K, .slice B mk d, .slice (some ⟨gb, 0, none⟩) m d'] from (keep _ BY3.out.lt (by omega)).trans BY3.out)
        have HAs := Lib.hid (HA3.out.box_turn BT.out keep hsz)
        have HTs := Lib.hid (HT3.out.box_turn BT.out keep hsz)
        have HBa := Lib.hid (show Below w.heap.size w P8 by rw [hY2]; exact below_put3 (below_next HB3.out (Nat.le_refl _) hb) hwT _ _ _)
        have HV1P := Lib.hid (show Below V1.heap.size V1 P8 by rw [hY2]; exact below_put3 (below_next HV13.out (Nat.le_refl _) hb) hvT _ _ _)
        have HYY2 := Lib.hid hY2
        clear ho ht hb hY2 keep CR q0 q1 q2 qz hset BT BY3 HA3 HT3 HB3 hW2 hz5 BT1 HYY HTT HV13
        go_upto_region 16 with fail
        rw [← HYY2.out]
        clear t0 t1 t2 tz f0 f1 f2
        have HSR := Lib.hid (HSTAY.out ((k - R : Nat) : Int) false HPL.out true R2 (by unfold fldN; rw [if_pos rfl, HR2.out]; omega))
        have HSD := Lib.hid (HSTAY.out ((k - R : Nat) : Int) false HPL.out false D2 (by unfold fldN; rw [if_neg (by decide), HD2.out]; omega))
        rw [← HW2.out] at HSR HSD
        have q0 := BSa.out.cell 0
        have q1 := BSa.out.cell 1
        have q2 := BSa.out.cell 2
        have qz := BSa.out.lt
        simp at q0 q1 q2
        have CY := CSY.out P8 HV1P.out
        clear HSTAY CSY
        go_wp2_with fail
        refine CY.mono ?_
        rintro e P9 ⟨rfl, hb⟩
        have BTb := Lib.hid (BTa.out.next hb)
        have HAb := Lib.hid (HAa.out.next hb)
        have HTb := Lib.hid (HTa.out.next hb)
        have BSb := Lib.hid (BSa.out.next hb)
        have HAc := Lib.hid (HAs.out.next hb)
        have HTc := Lib.hid (HTs.out.next hb)
        have HBb := Lib.hid (below_next HBa.out (Nat.le_refl _) hb)
        clear hb q0 q1 q2 qz CY BTa HAa HTa BSa HAs HTs HBa HV1P
        go_wp2_with fail
        go_loopw [23, 24, 25, 26, 27] (fun n _ _ _ _ wr => ∃ j : Nat, j ≤ R2 ∧ n = .int .i64 j ∧ Below P9.heap.size P9 wr) (fun n _ _ _ _ _ => R2 - (intOf n).toNat)
        case atStart => exact ⟨0, by omega, rfl, Below.refl _ _⟩
        case round =>
          obtain ⟨R0, rfl⟩ : ∃ R0, R0 = wr := ⟨_, rfl⟩
          obtain ⟨j, hj, rfl, hb⟩ := hrel
          have HBR := Lib.hid hb
          clear hb
          by_cases hlt : j < R2
          · have BT0 := BTb.out.next HBR.out
            have BS0 := BSb.out.next HBR.out
            have q0 := BS0.cell 0
            have q1 := BS0.cell 1
            have q2 := BS0.cell 2
            have qz := BS0.lt
            simp at q0 q1 q2
            obtain ⟨h1, h2, h3⟩ := HSR.out j hlt
            obtain ⟨x, hx⟩ : ∃ x, getV K mk wd m F Y8 j true = x := ⟨_, rfl⟩
            have C1 := objRef_any K B (some ⟨gb, 0, none⟩) mk d m d' wd F Y8 j R0 (HAc.out.next HBR.out) (HTc.out.next HBR.out) HU64.out (by omega) (by omega)
            rw [h1, hx] at C1
            have C2 := Lib.hid (show ∀ W, Below R0.heap.size R0 W → Calls Try.prog 24 #[.agg #[.int .i64 K, .slice (some ⟨b5, o5, none⟩) mk c5, .slice (some ⟨g5, 0, none⟩) m c6], .int .i64 Y8, .int .i64 j] W (GivesW x 0 W) from fun W hW => by
              have h := objRef_any K (some ⟨b5, o5, none⟩) (some ⟨g5, 0, none⟩) mk c5 m c6 W2 F Y8 j W ((HAb.out.next HBR.out).next hW) ((HTb.out.next HBR.out).next hW) HSU.out (by omega) (by omega)
              rw [h2, h3, hx] at h
              exact h)
            have hlt2 : (j : Int) < R2 := by omega
            clear h1 h2 h3 hx
            go_wp2_with fail
            refine C1.mono ?_
            rintro e R1 ⟨rfl, hb⟩
            have HR1 := Lib.hid hb
            have BT1 := BT0.next hb
            clear hb q0 q1 q2 qz C1 BT0 BS0
            have q0 := BT1.cell 0
            have q1 := BT1.cell 1
            have q2 := BT1.cell 2
            have qz := BT1.lt
            simp at q0 q1 q2
            go_wp2_with fail
            refine (C2.out _ HR1.out).mono ?_
            rintro e R3 ⟨rfl, hb⟩
            have HR3 := Lib.hid (below_next HBR.out (Nat.le_refl _) (below_next HR1.out (Nat.le_refl _) hb))
            clear hb q0 q1 q2 qz C2 BT1
            go_wp2_with fail
            go_roundw
            case rel => exact ⟨j + 1, by omega, by first | rfl | go_num | simp, HR3.out⟩
            case measure => simp [intOf]; omega
          · obtain rfl : j = R2 := by omega
            have hlt2 : ¬ (j : Int) < j := by omega
            have BTd := Lib.hid (BTb.out.next HBR.out)
            have HAd := Lib.hid (HAb.out.next HBR.out)
            have HTd := Lib.hid (HTb.out.next HBR.out)
            have BSd := Lib.hid (BSb.out.next HBR.out)
            have HAe := Lib.hid (HAc.out.next HBR.out)
            have HTe := Lib.hid (HTc.out.next HBR.out)
            have HBd := Lib.hid (below_next HBb.out (Nat.le_refl _) HBR.out)
            obtain ⟨P10, rfl⟩ : ∃ P, P = R0 := ⟨_, rfl⟩
            clear BTb HAb HTb BSb HAc HTc HBb HBR HSR
            go_wp2_with fail
            go_loopw [28, 29, 30, 31, 32] (fun n _ _ _ _ wr => ∃ j : Nat, j ≤ D2 ∧ n = .int .i64 j ∧ Below P10.heap.size P10 wr) (fun n _ _ _ _ _ => D2 - (intOf n).toNat)
            case atStart => exact ⟨0, by omega, rfl, Below.refl _ _⟩
            case round =>
              obtain ⟨R0, rfl⟩ : ∃ R0, R0 = wr := ⟨_, rfl⟩
              obtain ⟨j, hj, rfl, hb⟩ := hrel
              have HBR := Lib.hid hb
              clear hb
              by_cases hlt : j < D2
              · have BT0 := BTd.out.next HBR.out
                have BS0 := BSd.out.next HBR.out
                have q0 := BS0.cell 0
                have q1 := BS0.cell 1
                have q2 := BS0.cell 2
                have qz := BS0.lt
                simp at q0 q1 q2
                obtain ⟨h1, h2, h3⟩ := HSD.out j hlt
                obtain ⟨x, hx⟩ : ∃ x, getV K mk wd m F Y8 j false = x := ⟨_, rfl⟩
                have C1 := objData_any K B (some ⟨gb, 0, none⟩) mk d m d' wd F Y8 j R0 (HAe.out.next HBR.out) (HTe.out.next HBR.out) HU64.out (by omega) (by omega)
                rw [h1, hx] at C1
                have C2 := Lib.hid (show ∀ W, Below R0.heap.size R0 W → Calls Try.prog 28 #[.agg #[.int .i64 K, .slice (some ⟨b5, o5, none⟩) mk c5, .slice (some ⟨g5, 0, none⟩) m c6], .int .i64 Y8, .int .i64 j] W (GivesW x 0 W) from fun W hW => by
                  have h := objData_any K (some ⟨b5, o5, none⟩) (some ⟨g5, 0, none⟩) mk c5 m c6 W2 F Y8 j W ((HAd.out.next HBR.out).next hW) ((HTd.out.next HBR.out).next hW) HSU.out (by omega) (by omega)
                  rw [h2, h3, hx] at h
                  exact h)
                have hlt2 : (j : Int) < D2 := by omega
                clear h1 h2 h3 hx
                go_wp2_with fail
                refine C1.mono ?_
                rintro e R1 ⟨rfl, hb⟩
                have HR1 := Lib.hid hb
                have BT1 := BT0.next hb
                clear hb q0 q1 q2 qz C1 BT0 BS0
                have q0 := BT1.cell 0
                have q1 := BT1.cell 1
                have q2 := BT1.cell 2
                have qz := BT1.lt
                simp at q0 q1 q2
                go_wp2_with fail
                refine (C2.out _ HR1.out).mono ?_
                rintro e R3 ⟨rfl, hb⟩
                have HR3 := Lib.hid (below_next HBR.out (Nat.le_refl _) (below_next HR1.out (Nat.le_refl _) hb))
                clear hb q0 q1 q2 qz C2 BT1
                go_wp2_with fail
                go_roundw
                case rel => exact ⟨j + 1, by omega, by first | rfl | go_num | simp, HR3.out⟩
                case measure => simp [intOf]; omega
              · obtain rfl : j = D2 := by omega
                have hlt2 : ¬ (j : Int) < j := by omega
                go_wp2_with fail
                refine (awake8_any R0).mono ?_
                rintro e w9 ⟨rfl, hb9⟩
                have HB9 := Lib.hid (below_next HBd.out (Nat.le_refl _) (below_next HBR.out (Nat.le_refl _) hb9))
                clear hb9
                go_wp2_with fail
                go_ret
                exact ⟨rfl, HB9.out⟩
end Go.Proofs.Ytfjdafnejhgijaa
