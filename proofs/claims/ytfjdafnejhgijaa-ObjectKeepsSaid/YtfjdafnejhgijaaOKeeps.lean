/-
  The walk of ObjectKeeps. (Written by wip/tools/mkkeeps-s8.py: one walk for each kind of field.)
-/
import Derived.Test.YtfjdafnejhgijaaOk
import Derived.Deep.CutBlock
import Derived.Deep.DeepCutAuto
namespace Go.Proofs.Ytfjdafnejhgijaa
open Go.RowKit
set_option maxRecDepth 100000
set_option linter.unusedVariables false

set_option maxHeartbeats 16000000 in
theorem walkKeepsT (Al : Option Addr) (nl cl : Nat) (a i v : Int) (w : World) (hL : ListP w w.heap.size Al nl cl) (i0 : -9223372036854775808 ≤ a) (i1 : a ≤ 9223372036854775807) (j0 : -9223372036854775808 ≤ i) (j1 : i ≤ 9223372036854775807) (v0 : 0 ≤ v) (v1 : v < 18446744073709551616) :
    Calls Try.prog 6 #[.slice Al nl cl, .int .i64 a, .int .i64 i, .int .u64 v, .bool true] w fun e w' => e = .returned (.bool true) ∧ Below w.heap.size w w' := by
  go_enter Try.func6, Try.ntmps6
  go_wp2_with fail
  refine (deck_any Al nl cl w hL).mono ?_
  rintro e U2 ⟨rfl, hd, hb, hz⟩
  have HDK := Lib.hid hd
  have HBU2 := Lib.hid hb
  clear hd hb hL hz
  go_wp2_with fail
  refine (space_any w.heap.size U2 HDK.out).mono ?_
  rintro e U3 ⟨K, m, B, d, gb, d', wd, F, L, rfl, kk0, kk1, m0, m1, hoA, hoT, ⟨hvp, how, hu⟩, ⟨_, I, BI, hBI, hLR, hAll⟩, hG⟩
  have HBU3 := Lib.hid (below_turn HBU2.out hG (Nat.le_refl _))
  have HVP := Lib.hid hvp
  have HU64 := Lib.hid hu
  have HALL := Lib.hid hAll
  have hmk1 : m * 2 ^ K ≤ 16384 := prod_le (by omega) (by omega)
  obtain ⟨mk, hmk⟩ : ∃ mk, mk = m * 2 ^ K := ⟨_, rfl⟩
  rw [← hmk] at hoA HVP HU64 hmk1 ⊢
  obtain ⟨V, hV⟩ : ∃ V, V = U3.alloc (.cells #[.int .i64 K, .slice B mk d, .slice (some ⟨gb, 0, none⟩) m d'] 25) := ⟨_, rfl⟩
  have hbv : Below U3.heap.size U3 V := by rw [hV]; exact (Below.refl _ _).alloc (Nat.le_refl _) _
  have BY := Lib.hid (show Blk V U3.heap.size 25 #[.int .i64 K, .slice B mk d, .slice (some ⟨gb, 0, none⟩) m d'] by rw [hV]; exact Blk.new _ _ _)
  have HBV := Lib.hid (below_next HBU3.out (Nat.le_refl _) hbv)
  have HA := Lib.hid (hoA.arr.next hbv)
  have HT := Lib.hid (hoT.tab.next hbv)
  have HLV := Lib.hid (hLR.below hbv)
  have HV := Lib.hid hV
  have q0 := BY.out.cell 0
  have q1 := BY.out.cell 1
  have q2 := BY.out.cell 2
  have qz := BY.out.lt
  simp at q0 q1 q2
  clear hV hbv HBU3 hG hoA hoT HDK HBU2 hvp how hu hmk hLR hAll hBI
  have CO := objects_any K B (some ⟨gb, 0, none⟩) mk d m d' wd F I BI U3.heap.size L V HA.out HT.out HVP.out HU64.out HALL.out HLV.out
  go_upto_region 2 with fail
  rw [← HV.out]
  go_wp2_with fail
  refine CO.mono ?_
  rintro e V1 ⟨l, ⟨A3, c3, rfl, hn3, hb1⟩, hobs, hlen⟩
  have HOBS := Lib.hid hobs
  have HN3 := Lib.hid hn3
  have BY1 := Lib.hid (BY.out.next hb1)
  have HA1 := Lib.hid (HA.out.next hb1)
  have HT1 := Lib.hid (HT.out.next hb1)
  have HB1 := Lib.hid (below_next HBV.out (Nat.le_refl _) hb1)
  clear hobs hn3 hb1 q0 q1 q2 qz CO BY HA HT HBV HLV HV
  by_cases hl0 : l.length = 0
  · have hb0 : ((l.length : Int) == 0) = true := by rw [hl0]; rfl
    clear hl0
    go_wp2_with fail
    refine (awake8_any V1).mono ?_
    rintro e w9 ⟨rfl, hb9⟩
    have HB9 := Lib.hid (below_next HB1.out (Nat.le_refl _) hb9)
    clear hb9
    go_wp2_with fail
    go_ret
    exact ⟨rfl, HB9.out⟩
  · have hb0 : ((l.length : Int) == 0) = false := by rw [beq_eq_false_iff_ne]; omega
    have CM1 := mod_any a (l.length : Int) (by omega) (by omega) i0 i1
    obtain ⟨jx, hjx, hjl⟩ : ∃ j : Nat, a % (l.length : Int) = j ∧ j < l.length := by
      have h1 := Int.emod_nonneg a (show (l.length : Int) ≠ 0 by omega)
      have h2 := Int.emod_lt_of_pos a (show 0 < (l.length : Int) by omega)
      exact ⟨(a % (l.length : Int)).toNat, by omega, by omega⟩
    rw [hjx] at CM1
    obtain ⟨b3, o3, rfl, hb3, hcj⟩ := HN3.out.at_ jx hjl
    obtain ⟨X, hX⟩ : ∃ X : Nat, X = l.getD jx 0 := ⟨_, rfl⟩
    have hcj' : V1.cell? ⟨b3, o3 + jx, none⟩ = some (.int .i64 (X : Int)) := by rw [hX]; exact hcj
    have hXlt : X < mk := by rw [hX]; exact HOBS.out.lt hjl
    have HXX := Lib.hid hX
    have HSX := Lib.hid (show shpE K mk wd m F X = 0 by rw [hX]; exact objs_shape HOBS.out hjl)
    have hr := shp_range (s := K) (n := m) (F := F) (a := (X : Int)) HU64.out
    obtain ⟨R, hR⟩ : ∃ R : Nat, shpR K mk wd m F X = R := ⟨(shpR K mk wd m F X).toNat, by omega⟩
    obtain ⟨D, hD⟩ : ∃ D : Nat, shpD K mk wd m F X = D := ⟨(shpD K mk wd m F X).toNat, by omega⟩
    have CS := objShape_any K B (some ⟨gb, 0, none⟩) mk d m d' wd F X V1 HA1.out HT1.out HU64.out (by omega) (by omega)
    rw [HSX.out, hR, hD] at CS
    rw [hR, hD] at hr
    have HR := Lib.hid hR
    have HD := Lib.hid hD
    have hj2 : 0 ≤ (jx : Int) ∧ (jx : Int) < (l.length : Int) := by omega
    have q0 := BY1.out.cell 0
    have q1 := BY1.out.cell 1
    have q2 := BY1.out.cell 2
    have qz := BY1.out.lt
    simp at q0 q1 q2
    clear hcj hX hjx hR hD hl0
    go_wp2_with fail
    refine (CM1 _).mono ?_
    rintro e w' ⟨rfl, rfl⟩
    go_wp2_with fail
    refine CS.mono ?_
    rintro e V2 ⟨rfl, hb2⟩
    have BY2 := Lib.hid (BY1.out.next hb2)
    have HA2 := Lib.hid (HA1.out.next hb2)
    have HT2 := Lib.hid (HT1.out.next hb2)
    have HN2 := Lib.hid (HN3.out.next hb2)
    have HB2 := Lib.hid (below_next HB1.out (Nat.le_refl _) hb2)
    clear hb2 q0 q1 q2 qz CM1 CS hcj' BY1 HA1 HT1 HB1 HN3 hb0
    by_cases hn0 : R = 0
    · subst hn0
      go_wp2_with fail
      refine (awake8_any V2).mono ?_
      rintro e w9 ⟨rfl, hb9⟩
      have HB9 := Lib.hid (below_next HB2.out (Nat.le_refl _) hb9)
      clear hb9
      go_wp2_with fail
      go_ret
      exact ⟨rfl, HB9.out⟩
    · have hb0 : ((R : Int) == 0) = false := by rw [beq_eq_false_iff_ne]; omega
      have CM2 := mod_any i (R : Int) (by omega) (by omega) j0 j1
      obtain ⟨k, hk, hkl⟩ : ∃ j : Nat, i % (R : Int) = j ∧ j < R := by
        have h1 := Int.emod_nonneg i (show (R : Int) ≠ 0 by omega)
        have h2 := Int.emod_lt_of_pos i (show 0 < (R : Int) by omega)
        exact ⟨(i % (R : Int)).toNat, by omega, by omega⟩
      rw [hk] at CM2
      have HPL := Lib.hid (show plcE K mk wd m F X k true = 0 from (plc_ok HSX.out (by omega) (by unfold fldN; rw [if_pos rfl, HR.out]; omega)).1)
      have HHD := Lib.hid (fun jy (hy : jy < l.length) => set_head (v := v) (i := (k : Int)) (t := true) HU64.out HVP.out HALL.out HOBS.out hjl hy (by rw [← HXX.out]; exact HPL.out))
      rw [← HXX.out] at HHD
      have HSV := Lib.hid (set_valid (v := v) HVP.out HU64.out HPL.out)
      have HSU := Lib.hid (set_u64 (K := K) (n := m) (F := F) (a := (X : Int)) (i := (k : Int)) (t := true) HU64.out v0 v1)
      have hh := HHD.out jx hjl
      rw [← HXX.out] at hh
      have HG := Lib.hid (set_get (v := v) HU64.out HVP.out HPL.out hh)
      obtain ⟨u, _, _, hpe, hps, _⟩ := plc_at HU64.out HPL.out
      obtain ⟨P, hP, hPn⟩ := stp_nat hps
      have HSA := Lib.hid (show ∀ j, j ≠ P → setW K mk wd m F X k true v j = wd j from fun j hj => by
        unfold setW
        rw [hpe, hP, Int.toNat_natCast, if_neg hj])
      obtain ⟨W2, hW2⟩ : ∃ W2, W2 = setW K mk wd m F X k true v := ⟨_, rfl⟩
      have q0 := BY2.out.cell 0
      have q1 := BY2.out.cell 1
      have q2 := BY2.out.cell 2
      have qz := BY2.out.lt
      simp at q0 q1 q2
      clear hk hpe hps hP hh hn0
      go_wp2_with fail
      refine (CM2 _).mono ?_
      rintro e w' ⟨rfl, rfl⟩
      clear CM2
      have CD := objSetData_any K B (some ⟨gb, 0, none⟩) mk d m d' wd F X k v V2 HA2.out HT2.out HU64.out (by omega) (by omega)
      go_wp2_with fail
      refine CD.mono ?_
      intro e V3 hset
      obtain ⟨k7, A7, n7, c7, A8, n8, c8, y7, rfl, hb⟩ := hset.any
      obtain ⟨Y, hY⟩ : ∃ Y, Y = V3.alloc (.cells #[.int .i64 k7, .slice A7 n7 c7, .slice A8 n8 c8] 25) := ⟨_, rfl⟩
      have hby : Below V3.heap.size V3 Y := by rw [hY]; exact (Below.refl _ _).alloc (Nat.le_refl _) _
      have hbY := below_next hb (Nat.le_refl _) hby
      have BT := Lib.hid (show Blk Y V3.heap.size 25 #[.int .i64 k7, .slice A7 n7 c7, .slice A8 n8 c8] by rw [hY]; exact Blk.new _ _ _)
      have BY3 := Lib.hid (BY2.out.next hbY)
      have HA3 := Lib.hid (HA2.out.next hbY)
      have HT3 := Lib.hid (HT2.out.next hbY)
      have HN3 := Lib.hid (HN2.out.next hbY)
      have HB3 := Lib.hid (below_next HB2.out (Nat.le_refl _) hbY)
      have zT : U3.heap.size < V3.heap.size := by have := BY2.out.lt; have := hb.size; omega
      have zb3 : b3 < V3.heap.size := by
        obtain ⟨_, _, e, hz, _⟩ := HN2.out.at_ jx hjl
        injection e with e
        injection e with e _
        subst e
        have := hb.size
        omega
      obtain ⟨T, hT⟩ : ∃ T, T = V3.heap.size := ⟨_, rfl⟩
      rw [← hT] at BT zT zb3
      have HTT := Lib.hid hT
      have HYY := Lib.hid hY
      have hwT : w.heap.size ≤ T := by rw [hT]; have := HB2.out.size; have := hb.size; omega
      clear hb hby hbY hY CD q0 q1 q2 qz hset BY2 HA2 HT2 HN2 HB2 hT
      go_upto_region 16 with fail
      rw [← HYY.out, ← HTT.out]
      have CR := objSetRef_any K B (some ⟨gb, 0, none⟩) mk d m d' wd F X k v Y HA3.out HT3.out HU64.out (by omega) (by omega)
      have q0 := BY3.out.cell 0
      have q1 := BY3.out.cell 1
      have q2 := BY3.out.cell 2
      have qz := BY3.out.lt
      simp at q0 q1 q2
      go_wp2_with fail
      refine CR.mono ?_
      intro e V4 hset
      obtain ⟨A5, c5, g5, c6, rfl, ho, ht, hb⟩ := hset.ok HPL.out
      rw [← hW2] at ho HHD HSV HSU HG HSA
      obtain ⟨b5, o5, rfl, hz5, _⟩ := ho.arr.at_ 0 (by omega)
      have BT1 := BT.out.next hb
      have t0 := BT1.cell 0
      have t1 := BT1.cell 1
      have t2 := BT1.cell 2
      have tz := BT1.lt
      simp at t0 t1 t2
      have f0 := BT1.frozen 0
      have f1 := BT1.frozen 1
      have f2 := BT1.frozen 2
      obtain ⟨Y2, hY2⟩ : ∃ Y2, Y2 = ((V4.setCell ⟨T, 0, none⟩ (.int .i64 K)).setCell ⟨T, 1, none⟩ (.slice (some ⟨b5, o5, none⟩) mk c5)).setCell ⟨T, 2, none⟩ (.slice (some ⟨g5, 0, none⟩) m c6) := ⟨_, rfl⟩
      have zTY : T < Y.heap.size := BT.out.lt
      have BT2 := Lib.hid (show Blk Y2 T 25 #[.int .i64 K, .slice (some ⟨b5, o5, none⟩) mk c5, .slice (some ⟨g5, 0, none⟩) m c6] by rw [hY2]; exact ((BT1.set_ 0 _).set_ 1 _).set_ 2 _)
      have HA5 := Lib.hid (show Arr Y2 Y2.heap.size (some ⟨b5, o5, none⟩) mk c5 W2 by rw [hY2]; exact (ho.put3 zTY _ _ _).arr)
      have HT5 := Lib.hid (show Tab Y2 Y2.heap.size (some ⟨g5, 0, none⟩) m c6 F by rw [hY2]; exact (ht.put3 zTY _ _ _).tab)
      have keep : ∀ b', b' < Y.heap.size → b' ≠ T → Y2.heap[b']? = Y.heap[b']? := fun b' h1 h2 => by
        rw [hY2]
        exact ((Below.heap_setCell _ ⟨T, 2, none⟩ _ b' h2).trans ((Below.heap_setCell _ ⟨T, 1, none⟩ _ b' h2).trans (Below.heap_setCell V4 ⟨T, 0, none⟩ _ b' h2))).trans (hb.block b' h1)
      have hsz : Y.heap.size ≤ Y2.heap.size := by rw [hY2]; simpa using hb.size
      have BY4 := Lib.hid (show Blk Y2 U3.heap.size 25 #[.int .i64 K, .slice B mk d, .slice (some ⟨gb, 0, none⟩) m d'] from (keep _ BY3.out.lt (by omega)).trans BY3.out)
      have HA4 := Lib.hid (HA3.out.box_turn BT.out keep hsz)
      have HT4 := Lib.hid (HT3.out.box_turn BT.out keep hsz)
      have HN4 := Lib.hid (HN3.out.box_turn8 BT.out (fun x o e => by injection e with e; injection e with e; subst e; omega) keep hsz)
      have HB4 := Lib.hid (show Below w.heap.size w Y2 by rw [hY2]; exact below_put3 (below_next HB3.out (Nat.le_refl _) hb) hwT _ _ _)
      have HYY2 := Lib.hid hY2
      clear ho ht hb hY2 keep CR q0 q1 q2 qz hset BT BY3 HA3 HT3 HN3 HB3 hW2 hz5 BT1 HYY HTT
      go_upto_region 18 with fail
      rw [← HYY2.out]
      clear t0 t1 t2 tz f0 f1 f2
      have CG := objData_any K (some ⟨b5, o5, none⟩) (some ⟨g5, 0, none⟩) mk c5 m c6 W2 F X k Y2 HA5.out HT5.out HSU.out (by omega) (by omega)
      obtain ⟨gg, hgg⟩ : ∃ x, x = getV K mk W2 m F X k false := ⟨_, rfl⟩
      obtain ⟨ge, hge⟩ : ∃ x, x = plcE K mk W2 m F X k false := ⟨_, rfl⟩
      rw [← hgg, ← hge] at CG
      clear hgg hge
      have q0 := BT2.out.cell 0
      have q1 := BT2.out.cell 1
      have q2 := BT2.out.cell 2
      have qz := BT2.out.lt
      simp at q0 q1 q2
      go_wp2_with fail
      refine CG.mono ?_
      rintro e Z1 ⟨rfl, hb⟩
      have BT5 := Lib.hid (BT2.out.next hb)
      have HA7 := Lib.hid (HA5.out.next hb)
      have HT7 := Lib.hid (HT5.out.next hb)
      have HZ1 := Lib.hid hb
      clear hb q0 q1 q2 qz CG
      have CF := objRef_any K (some ⟨b5, o5, none⟩) (some ⟨g5, 0, none⟩) mk c5 m c6 W2 F X k Z1 HA7.out HT7.out HSU.out (by omega) (by omega)
      rw [HG.out.1, HG.out.2] at CF
      have q0 := BT5.out.cell 0
      have q1 := BT5.out.cell 1
      have q2 := BT5.out.cell 2
      have qz := BT5.out.lt
      simp at q0 q1 q2
      go_wp2_with fail
      refine CF.mono ?_
      rintro e Z ⟨rfl, hb'⟩
      have hb : Below Y2.heap.size Y2 Z := below_next HZ1.out (Nat.le_refl _) hb'
      have BT4 := Lib.hid (BT2.out.next hb)
      have HA6 := Lib.hid (HA5.out.next hb)
      have HT6 := Lib.hid (HT5.out.next hb)
      have BY5 := Lib.hid (BY4.out.next hb)
      have HA8 := Lib.hid (HA4.out.next hb)
      have HT8 := Lib.hid (HT4.out.next hb)
      have HN8 := Lib.hid (HN4.out.next hb)
      have HB8 := Lib.hid (below_next HB4.out (Nat.le_refl _) hb)
      clear BY4 HA4 HT4 HN4 HB4
      have BY4 := BY5
      have HA4 := HA8
      have HT4 := HT8
      have HN4 := HN8
      have HB4 := HB8
      clear hb hb' q0 q1 q2 qz CF BT2 HA5 HT5 BT5 HA7 HT7 HZ1 HG HPL BY5 HA8 HT8 HN8 HB8
      have u1 := BT4.out.cell 1
      have uz := BT4.out.lt
      have y1 := BY4.out.cell 1
      have yz := BY4.out.lt
      simp at u1 y1
      obtain ⟨b6, o6, rfl, hz6, _⟩ := HA4.out.at_ 0 (by omega)
      clear hz6
      go_wp2_with fail
      go_loopw [23, 24, 126] (fun c _ p wr => ∃ (j ch : Nat), j ≤ mk ∧ p = .int .i64 j ∧ c = .int .i64 ch ∧ ch ≤ 1 ∧ (j ≤ P → ch = 0) ∧ ∃ q, wr = Z.drewN q) (fun _ _ p _ => mk - (intOf p).toNat)
      case atStart => exact ⟨0, 0, by omega, rfl, rfl, by omega, fun _ => rfl, 0, rfl⟩
      case round =>
        obtain ⟨j, ch, hj, rfl, rfl, hch, hcp, q, rfl⟩ := hrel
        by_cases hlt : j < mk
        · obtain ⟨_, _, e1, hzb, hcs⟩ := HA4.out.at_ j hlt
          injection e1 with e1
          injection e1 with e1 e2
          subst e1 e2
          obtain ⟨_, _, e1, hzb', hct⟩ := HA6.out.at_ j hlt
          injection e1 with e1
          injection e1 with e1 e2
          subst e1 e2
          have hjj : 0 ≤ (j : Int) ∧ (j : Int) < mk := by omega
          obtain ⟨x, hx⟩ : ∃ x, x = wd j := ⟨_, rfl⟩
          obtain ⟨y, hy⟩ : ∃ y, y = W2 j := ⟨_, rfl⟩
          rw [← hx] at hcs
          rw [← hy] at hct
          have hxy : j ≠ P → y = x := fun h => by rw [hx, hy]; exact HSA.out j h
          have hlt2 : (j : Int) < mk := by omega
          by_cases hd : x = y
          · have hne : (x != y) = false := by simpa using hd
            have HCP := Lib.hid hcp
            clear hx hy hxy hd hcp
            go_upto_region 27 with fail
            go_quiet (fail)
            go_wp2
            exact ⟨⟨j + 1, ch, by omega, by first | rfl | go_num | simp, rfl, hch, fun h => HCP.out (by omega), _, rfl⟩, by simp [intOf]; omega⟩
          · have hne : (x != y) = true := by simpa using hd
            have hjP : j = P := by
              rcases Nat.lt_trichotomy j P with h | h | h
              · exact absurd (hxy (by omega)).symm hd
              · exact h
              · exact absurd (hxy (by omega)).symm hd
            obtain rfl : ch = 0 := hcp (by omega)
            have HJP := Lib.hid hjP
            clear hx hy hxy hd hcp hjP
            go_upto_region 27 with fail
            go_quiet (fail)
            go_wp2
            exact ⟨⟨j + 1, 1, by omega, by first | rfl | go_num | simp, by first | rfl | go_num | simp, by omega, fun h => absurd h (by rw [← HJP.out]; omega), _, rfl⟩, by simp [intOf]; omega⟩
        · obtain rfl : j = mk := by omega
          have hlt2 : ¬ (j : Int) < j := by omega
          obtain ⟨Z2, hZ2⟩ : ∃ Z2, Z2 = Z.drewN q := ⟨_, rfl⟩
          have hbz : Below Z.heap.size Z Z2 := by rw [hZ2]; exact after_drawn _ (Below.refl _ _)
          have BT9 := Lib.hid (BT4.out.next hbz)
          have HA9 := Lib.hid (HA6.out.next hbz)
          have HT9 := Lib.hid (HT6.out.next hbz)
          have BS9 := Lib.hid (BY4.out.next hbz)
          have HAS := Lib.hid (HA4.out.next hbz)
          have HTS := Lib.hid (HT4.out.next hbz)
          have HN9 := Lib.hid (HN4.out.next hbz)
          have HB9 := Lib.hid (below_next HB4.out (Nat.le_refl _) hbz)
          rw [← hZ2]
          clear hZ2 hbz BT4 HA6 HT6 BY4 HA4 HT4 HN4 HB4 u1 uz y1 yz hcp
          go_wp2_with fail
          go_loopw [26, 27, 28, 29, 30, 31, 32, 145] (fun _ _ _ _ _ _ _ p wr => ∃ jy : Nat, jy ≤ l.length ∧ p = .int .i64 jy ∧ Below Z2.heap.size Z2 wr) (fun _ _ _ _ _ _ _ p _ => l.length - (intOf p).toNat)
          case atStart => exact ⟨0, by omega, rfl, Below.refl _ _⟩
          case round =>
            obtain ⟨R0, rfl⟩ : ∃ R0, R0 = wr := ⟨_, rfl⟩
            obtain ⟨jy, hjy, rfl, hb⟩ := hrel
            have HBR := Lib.hid hb
            clear hb
            by_cases hlt : jy < l.length
            · have BT0 := BT9.out.next HBR.out
              have BS0 := BS9.out.next HBR.out
              have u0 := BT0.cell 0
              have u1 := BT0.cell 1
              have u2 := BT0.cell 2
              have uz := BT0.lt
              simp at u0 u1 u2
              obtain ⟨_, _, e1, hzb, hcy⟩ := (HN9.out.next HBR.out).at_ jy hlt
              injection e1 with e1
              injection e1 with e1 e2
              subst e1 e2
              obtain ⟨X2, hX2⟩ : ∃ X : Nat, X = l.getD jy 0 := ⟨_, rfl⟩
              have hcy' : R0.cell? ⟨b3, o3 + jy, none⟩ = some (.int .i64 (X2 : Int)) := by rw [hX2]; exact hcy
              have hX2lt : X2 < j := by rw [hX2]; exact HOBS.out.lt hlt
              have HS2 := objs_shape HOBS.out hlt
              have hh := HHD.out jy hlt
              rw [← hX2] at HS2 hh
              obtain ⟨z1, z2, z3⟩ := shp_same HVP.out HSV.out hh
              have hr2 := shp_range (s := K) (n := m) (F := F) (a := (X2 : Int)) HU64.out
              obtain ⟨R2, hR2⟩ : ∃ R, shpR K j wd m F X2 = R := ⟨_, rfl⟩
              obtain ⟨D2, hD2⟩ : ∃ D, shpD K j wd m F X2 = D := ⟨_, rfl⟩
              have C1 := objShape_any K (some ⟨b5, o5, none⟩) (some ⟨g5, 0, none⟩) j c5 m c6 W2 F X2 R0 (HA9.out.next HBR.out) (HT9.out.next HBR.out) HSU.out (by omega) (by omega)
              rw [z1, z2, z3, HS2, hR2, hD2] at C1
              have C2 := Lib.hid (show ∀ W, Below R0.heap.size R0 W → Calls Try.prog 19 #[.agg #[.int .i64 K, .slice (some ⟨b6, o6, none⟩) j d, .slice (some ⟨gb, 0, none⟩) m d'], .int .i64 X2] W (Gives3 R2 D2 0 W) from fun W hW => by
                have h := objShape_any K (some ⟨b6, o6, none⟩) (some ⟨gb, 0, none⟩) j d m d' wd F X2 W ((HAS.out.next HBR.out).next hW) ((HTS.out.next HBR.out).next hW) HU64.out (by omega) (by omega)
                rw [HS2, hR2, hD2] at h
                exact h)
              have hj3 : 0 ≤ (jy : Int) ∧ (jy : Int) < (l.length : Int) := by omega
              clear hcy hX2 HS2 hh z1 z2 z3 hR2 hD2 hr2
              go_wp2_with fail
              refine C1.mono ?_
              rintro e R1 ⟨rfl, hb⟩
              have HR1 := Lib.hid hb
              have BS1 := BS0.next hb
              clear hb u0 u1 u2 uz C1 BT0 BS0 hcy'
              have u0 := BS1.cell 0
              have u1 := BS1.cell 1
              have u2 := BS1.cell 2
              have uz := BS1.lt
              simp at u0 u1 u2
              go_wp2_with fail
              refine (C2.out _ HR1.out).mono ?_
              rintro e R3 ⟨rfl, hb⟩
              have HR3 := Lib.hid (below_next HBR.out (Nat.le_refl _) (below_next HR1.out (Nat.le_refl _) hb))
              clear hb u0 u1 u2 uz C2 BS1
              go_wp2_with fail
              go_roundw
              case rel => exact ⟨jy + 1, by omega, by first | rfl | go_num | simp, HR3.out⟩
              case measure => simp [intOf]; omega
            · obtain rfl : jy = l.length := by omega
              have hlt3 : ¬ (l.length : Int) < (l.length : Int) := by omega
              go_wp2_with fail
              go_ret
              exact ⟨by simp; omega, below_next HB9.out (Nat.le_refl _) HBR.out⟩

set_option maxHeartbeats 16000000 in
theorem walkKeepsF (Al : Option Addr) (nl cl : Nat) (a i v : Int) (w : World) (hL : ListP w w.heap.size Al nl cl) (i0 : -9223372036854775808 ≤ a) (i1 : a ≤ 9223372036854775807) (j0 : -9223372036854775808 ≤ i) (j1 : i ≤ 9223372036854775807) (v0 : 0 ≤ v) (v1 : v < 18446744073709551616) :
    Calls Try.prog 6 #[.slice Al nl cl, .int .i64 a, .int .i64 i, .int .u64 v, .bool false] w fun e w' => e = .returned (.bool true) ∧ Below w.heap.size w w' := by
  go_enter Try.func6, Try.ntmps6
  go_wp2_with fail
  refine (deck_any Al nl cl w hL).mono ?_
  rintro e U2 ⟨rfl, hd, hb, hz⟩
  have HDK := Lib.hid hd
  have HBU2 := Lib.hid hb
  clear hd hb hL hz
  go_wp2_with fail
  refine (space_any w.heap.size U2 HDK.out).mono ?_
  rintro e U3 ⟨K, m, B, d, gb, d', wd, F, L, rfl, kk0, kk1, m0, m1, hoA, hoT, ⟨hvp, how, hu⟩, ⟨_, I, BI, hBI, hLR, hAll⟩, hG⟩
  have HBU3 := Lib.hid (below_turn HBU2.out hG (Nat.le_refl _))
  have HVP := Lib.hid hvp
  have HU64 := Lib.hid hu
  have HALL := Lib.hid hAll
  have hmk1 : m * 2 ^ K ≤ 16384 := prod_le (by omega) (by omega)
  obtain ⟨mk, hmk⟩ : ∃ mk, mk = m * 2 ^ K := ⟨_, rfl⟩
  rw [← hmk] at hoA HVP HU64 hmk1 ⊢
  obtain ⟨V, hV⟩ : ∃ V, V = U3.alloc (.cells #[.int .i64 K, .slice B mk d, .slice (some ⟨gb, 0, none⟩) m d'] 25) := ⟨_, rfl⟩
  have hbv : Below U3.heap.size U3 V := by rw [hV]; exact (Below.refl _ _).alloc (Nat.le_refl _) _
  have BY := Lib.hid (show Blk V U3.heap.size 25 #[.int .i64 K, .slice B mk d, .slice (some ⟨gb, 0, none⟩) m d'] by rw [hV]; exact Blk.new _ _ _)
  have HBV := Lib.hid (below_next HBU3.out (Nat.le_refl _) hbv)
  have HA := Lib.hid (hoA.arr.next hbv)
  have HT := Lib.hid (hoT.tab.next hbv)
  have HLV := Lib.hid (hLR.below hbv)
  have HV := Lib.hid hV
  have q0 := BY.out.cell 0
  have q1 := BY.out.cell 1
  have q2 := BY.out.cell 2
  have qz := BY.out.lt
  simp at q0 q1 q2
  clear hV hbv HBU3 hG hoA hoT HDK HBU2 hvp how hu hmk hLR hAll hBI
  have CO := objects_any K B (some ⟨gb, 0, none⟩) mk d m d' wd F I BI U3.heap.size L V HA.out HT.out HVP.out HU64.out HALL.out HLV.out
  go_upto_region 2 with fail
  rw [← HV.out]
  go_wp2_with fail
  refine CO.mono ?_
  rintro e V1 ⟨l, ⟨A3, c3, rfl, hn3, hb1⟩, hobs, hlen⟩
  have HOBS := Lib.hid hobs
  have HN3 := Lib.hid hn3
  have BY1 := Lib.hid (BY.out.next hb1)
  have HA1 := Lib.hid (HA.out.next hb1)
  have HT1 := Lib.hid (HT.out.next hb1)
  have HB1 := Lib.hid (below_next HBV.out (Nat.le_refl _) hb1)
  clear hobs hn3 hb1 q0 q1 q2 qz CO BY HA HT HBV HLV HV
  by_cases hl0 : l.length = 0
  · have hb0 : ((l.length : Int) == 0) = true := by rw [hl0]; rfl
    clear hl0
    go_wp2_with fail
    refine (awake8_any V1).mono ?_
    rintro e w9 ⟨rfl, hb9⟩
    have HB9 := Lib.hid (below_next HB1.out (Nat.le_refl _) hb9)
    clear hb9
    go_wp2_with fail
    go_ret
    exact ⟨rfl, HB9.out⟩
  · have hb0 : ((l.length : Int) == 0) = false := by rw [beq_eq_false_iff_ne]; omega
    have CM1 := mod_any a (l.length : Int) (by omega) (by omega) i0 i1
    obtain ⟨jx, hjx, hjl⟩ : ∃ j : Nat, a % (l.length : Int) = j ∧ j < l.length := by
      have h1 := Int.emod_nonneg a (show (l.length : Int) ≠ 0 by omega)
      have h2 := Int.emod_lt_of_pos a (show 0 < (l.length : Int) by omega)
      exact ⟨(a % (l.length : Int)).toNat, by omega, by omega⟩
    rw [hjx] at CM1
    obtain ⟨b3, o3, rfl, hb3, hcj⟩ := HN3.out.at_ jx hjl
    obtain ⟨X, hX⟩ : ∃ X : Nat, X = l.getD jx 0 := ⟨_, rfl⟩
    have hcj' : V1.cell? ⟨b3, o3 + jx, none⟩ = some (.int .i64 (X : Int)) := by rw [hX]; exact hcj
    have hXlt : X < mk := by rw [hX]; exact HOBS.out.lt hjl
    have HXX := Lib.hid hX
    have HSX := Lib.hid (show shpE K mk wd m F X = 0 by rw [hX]; exact objs_shape HOBS.out hjl)
    have hr := shp_range (s := K) (n := m) (F := F) (a := (X : Int)) HU64.out
    obtain ⟨R, hR⟩ : ∃ R : Nat, shpR K mk wd m F X = R := ⟨(shpR K mk wd m F X).toNat, by omega⟩
    obtain ⟨D, hD⟩ : ∃ D : Nat, shpD K mk wd m F X = D := ⟨(shpD K mk wd m F X).toNat, by omega⟩
    have CS := objShape_any K B (some ⟨gb, 0, none⟩) mk d m d' wd F X V1 HA1.out HT1.out HU64.out (by omega) (by omega)
    rw [HSX.out, hR, hD] at CS
    rw [hR, hD] at hr
    have HR := Lib.hid hR
    have HD := Lib.hid hD
    have hj2 : 0 ≤ (jx : Int) ∧ (jx : Int) < (l.length : Int) := by omega
    have q0 := BY1.out.cell 0
    have q1 := BY1.out.cell 1
    have q2 := BY1.out.cell 2
    have qz := BY1.out.lt
    simp at q0 q1 q2
    clear hcj hX hjx hR hD hl0
    go_wp2_with fail
    refine (CM1 _).mono ?_
    rintro e w' ⟨rfl, rfl⟩
    go_wp2_with fail
    refine CS.mono ?_
    rintro e V2 ⟨rfl, hb2⟩
    have BY2 := Lib.hid (BY1.out.next hb2)
    have HA2 := Lib.hid (HA1.out.next hb2)
    have HT2 := Lib.hid (HT1.out.next hb2)
    have HN2 := Lib.hid (HN3.out.next hb2)
    have HB2 := Lib.hid (below_next HB1.out (Nat.le_refl _) hb2)
    clear hb2 q0 q1 q2 qz CM1 CS hcj' BY1 HA1 HT1 HB1 HN3 hb0
    by_cases hn0 : D = 0
    · subst hn0
      go_wp2_with fail
      refine (awake8_any V2).mono ?_
      rintro e w9 ⟨rfl, hb9⟩
      have HB9 := Lib.hid (below_next HB2.out (Nat.le_refl _) hb9)
      clear hb9
      go_wp2_with fail
      go_ret
      exact ⟨rfl, HB9.out⟩
    · have hb0 : ((D : Int) == 0) = false := by rw [beq_eq_false_iff_ne]; omega
      have CM2 := mod_any i (D : Int) (by omega) (by omega) j0 j1
      obtain ⟨k, hk, hkl⟩ : ∃ j : Nat, i % (D : Int) = j ∧ j < D := by
        have h1 := Int.emod_nonneg i (show (D : Int) ≠ 0 by omega)
        have h2 := Int.emod_lt_of_pos i (show 0 < (D : Int) by omega)
        exact ⟨(i % (D : Int)).toNat, by omega, by omega⟩
      rw [hk] at CM2
      have HPL := Lib.hid (show plcE K mk wd m F X k false = 0 from (plc_ok HSX.out (by omega) (by unfold fldN; rw [if_neg (by decide), HD.out]; omega)).1)
      have HHD := Lib.hid (fun jy (hy : jy < l.length) => set_head (v := v) (i := (k : Int)) (t := false) HU64.out HVP.out HALL.out HOBS.out hjl hy (by rw [← HXX.out]; exact HPL.out))
      rw [← HXX.out] at HHD
      have HSV := Lib.hid (set_valid (v := v) HVP.out HU64.out HPL.out)
      have HSU := Lib.hid (set_u64 (K := K) (n := m) (F := F) (a := (X : Int)) (i := (k : Int)) (t := false) HU64.out v0 v1)
      have hh := HHD.out jx hjl
      rw [← HXX.out] at hh
      have HG := Lib.hid (set_get (v := v) HU64.out HVP.out HPL.out hh)
      obtain ⟨u, _, _, hpe, hps, _⟩ := plc_at HU64.out HPL.out
      obtain ⟨P, hP, hPn⟩ := stp_nat hps
      have HSA := Lib.hid (show ∀ j, j ≠ P → setW K mk wd m F X k false v j = wd j from fun j hj => by
        unfold setW
        rw [hpe, hP, Int.toNat_natCast, if_neg hj])
      obtain ⟨W2, hW2⟩ : ∃ W2, W2 = setW K mk wd m F X k false v := ⟨_, rfl⟩
      have q0 := BY2.out.cell 0
      have q1 := BY2.out.cell 1
      have q2 := BY2.out.cell 2
      have qz := BY2.out.lt
      simp at q0 q1 q2
      clear hk hpe hps hP hh hn0
      go_wp2_with fail
      refine (CM2 _).mono ?_
      rintro e w' ⟨rfl, rfl⟩
      clear CM2
      have CD := objSetData_any K B (some ⟨gb, 0, none⟩) mk d m d' wd F X k v V2 HA2.out HT2.out HU64.out (by omega) (by omega)
      go_wp2_with fail
      refine CD.mono ?_
      intro e V3 hset
      obtain ⟨A5, c5, g5, c6, rfl, ho, ht, hb⟩ := hset.ok HPL.out
      rw [← hW2] at ho HHD HSV HSU HG HSA
      obtain ⟨b5, o5, rfl, hz5, _⟩ := ho.arr.at_ 0 (by omega)
      obtain ⟨Y, hY⟩ : ∃ Y, Y = V3.alloc (.cells #[.int .i64 K, .slice (some ⟨b5, o5, none⟩) mk c5, .slice (some ⟨g5, 0, none⟩) m c6] 25) := ⟨_, rfl⟩
      have hby : Below V3.heap.size V3 Y := by rw [hY]; exact (Below.refl _ _).alloc (Nat.le_refl _) _
      have hbY := below_next hb (Nat.le_refl _) hby
      have BT := Lib.hid (show Blk Y V3.heap.size 25 #[.int .i64 K, .slice (some ⟨b5, o5, none⟩) mk c5, .slice (some ⟨g5, 0, none⟩) m c6] by rw [hY]; exact Blk.new _ _ _)
      have HA5 := Lib.hid (show Arr Y Y.heap.size (some ⟨b5, o5, none⟩) mk c5 W2 from ho.arr.next hby)
      have HT5 := Lib.hid (show Tab Y Y.heap.size (some ⟨g5, 0, none⟩) m c6 F from ht.tab.next hby)
      have BY3 := Lib.hid (BY2.out.next hbY)
      have HA3 := Lib.hid (HA2.out.next hbY)
      have HT3 := Lib.hid (HT2.out.next hbY)
      have HN3 := Lib.hid (HN2.out.next hbY)
      have HB3 := Lib.hid (below_next HB2.out (Nat.le_refl _) hbY)
      obtain ⟨T, hT⟩ : ∃ T, T = V3.heap.size := ⟨_, rfl⟩
      rw [← hT] at BT
      have HTT := Lib.hid hT
      have HYY := Lib.hid hY
      clear ho ht hb hby hbY hY CD q0 q1 q2 qz hset BY2 HA2 HT2 HN2 HB2 hT hW2 hz5
      go_upto_region 16 with fail
      rw [← HYY.out, ← HTT.out]
      have CG := objData_any K (some ⟨b5, o5, none⟩) (some ⟨g5, 0, none⟩) mk c5 m c6 W2 F X k Y HA5.out HT5.out HSU.out (by omega) (by omega)
      rw [HG.out.1, HG.out.2] at CG
      have q0 := BT.out.cell 0
      have q1 := BT.out.cell 1
      have q2 := BT.out.cell 2
      have qz := BT.out.lt
      simp at q0 q1 q2
      go_wp2_with fail
      refine CG.mono ?_
      rintro e Z ⟨rfl, hb⟩
      have BT4 := Lib.hid (BT.out.next hb)
      have HA6 := Lib.hid (HA5.out.next hb)
      have HT6 := Lib.hid (HT5.out.next hb)
      have BY4 := Lib.hid (BY3.out.next hb)
      have HA4 := Lib.hid (HA3.out.next hb)
      have HT4 := Lib.hid (HT3.out.next hb)
      have HN4 := Lib.hid (HN3.out.next hb)
      have HB4 := Lib.hid (below_next HB3.out (Nat.le_refl _) hb)
      clear hb q0 q1 q2 qz CG BT HA5 HT5 BY3 HA3 HT3 HN3 HB3 HG HPL
      have u1 := BT4.out.cell 1
      have uz := BT4.out.lt
      have y1 := BY4.out.cell 1
      have yz := BY4.out.lt
      simp at u1 y1
      obtain ⟨b6, o6, rfl, hz6, _⟩ := HA4.out.at_ 0 (by omega)
      clear hz6
      go_wp2_with fail
      go_loopw [23, 24, 126] (fun c _ p wr => ∃ (j ch : Nat), j ≤ mk ∧ p = .int .i64 j ∧ c = .int .i64 ch ∧ ch ≤ 1 ∧ (j ≤ P → ch = 0) ∧ ∃ q, wr = Z.drewN q) (fun _ _ p _ => mk - (intOf p).toNat)
      case atStart => exact ⟨0, 0, by omega, rfl, rfl, by omega, fun _ => rfl, 0, rfl⟩
      case round =>
        obtain ⟨j, ch, hj, rfl, rfl, hch, hcp, q, rfl⟩ := hrel
        by_cases hlt : j < mk
        · obtain ⟨_, _, e1, hzb, hcs⟩ := HA4.out.at_ j hlt
          injection e1 with e1
          injection e1 with e1 e2
          subst e1 e2
          obtain ⟨_, _, e1, hzb', hct⟩ := HA6.out.at_ j hlt
          injection e1 with e1
          injection e1 with e1 e2
          subst e1 e2
          have hjj : 0 ≤ (j : Int) ∧ (j : Int) < mk := by omega
          obtain ⟨x, hx⟩ : ∃ x, x = wd j := ⟨_, rfl⟩
          obtain ⟨y, hy⟩ : ∃ y, y = W2 j := ⟨_, rfl⟩
          rw [← hx] at hcs
          rw [← hy] at hct
          have hxy : j ≠ P → y = x := fun h => by rw [hx, hy]; exact HSA.out j h
          have hlt2 : (j : Int) < mk := by omega
          by_cases hd : x = y
          · have hne : (x != y) = false := by simpa using hd
            have HCP := Lib.hid hcp
            clear hx hy hxy hd hcp
            go_upto_region 27 with fail
            go_quiet (fail)
            go_wp2
            exact ⟨⟨j + 1, ch, by omega, by first | rfl | go_num | simp, rfl, hch, fun h => HCP.out (by omega), _, rfl⟩, by simp [intOf]; omega⟩
          · have hne : (x != y) = true := by simpa using hd
            have hjP : j = P := by
              rcases Nat.lt_trichotomy j P with h | h | h
              · exact absurd (hxy (by omega)).symm hd
              · exact h
              · exact absurd (hxy (by omega)).symm hd
            obtain rfl : ch = 0 := hcp (by omega)
            have HJP := Lib.hid hjP
            clear hx hy hxy hd hcp hjP
            go_upto_region 27 with fail
            go_quiet (fail)
            go_wp2
            exact ⟨⟨j + 1, 1, by omega, by first | rfl | go_num | simp, by first | rfl | go_num | simp, by omega, fun h => absurd h (by rw [← HJP.out]; omega), _, rfl⟩, by simp [intOf]; omega⟩
        · obtain rfl : j = mk := by omega
          have hlt2 : ¬ (j : Int) < j := by omega
          obtain ⟨Z2, hZ2⟩ : ∃ Z2, Z2 = Z.drewN q := ⟨_, rfl⟩
          have hbz : Below Z.heap.size Z Z2 := by rw [hZ2]; exact after_drawn _ (Below.refl _ _)
          have BT9 := Lib.hid (BT4.out.next hbz)
          have HA9 := Lib.hid (HA6.out.next hbz)
          have HT9 := Lib.hid (HT6.out.next hbz)
          have BS9 := Lib.hid (BY4.out.next hbz)
          have HAS := Lib.hid (HA4.out.next hbz)
          have HTS := Lib.hid (HT4.out.next hbz)
          have HN9 := Lib.hid (HN4.out.next hbz)
          have HB9 := Lib.hid (below_next HB4.out (Nat.le_refl _) hbz)
          rw [← hZ2]
          clear hZ2 hbz BT4 HA6 HT6 BY4 HA4 HT4 HN4 HB4 u1 uz y1 yz hcp
          go_wp2_with fail
          go_loopw [26, 27, 28, 29, 30, 31, 32, 145] (fun _ _ _ _ _ _ _ p wr => ∃ jy : Nat, jy ≤ l.length ∧ p = .int .i64 jy ∧ Below Z2.heap.size Z2 wr) (fun _ _ _ _ _ _ _ p _ => l.length - (intOf p).toNat)
          case atStart => exact ⟨0, by omega, rfl, Below.refl _ _⟩
          case round =>
            obtain ⟨R0, rfl⟩ : ∃ R0, R0 = wr := ⟨_, rfl⟩
            obtain ⟨jy, hjy, rfl, hb⟩ := hrel
            have HBR := Lib.hid hb
            clear hb
            by_cases hlt : jy < l.length
            · have BT0 := BT9.out.next HBR.out
              have BS0 := BS9.out.next HBR.out
              have u0 := BT0.cell 0
              have u1 := BT0.cell 1
              have u2 := BT0.cell 2
              have uz := BT0.lt
              simp at u0 u1 u2
              obtain ⟨_, _, e1, hzb, hcy⟩ := (HN9.out.next HBR.out).at_ jy hlt
              injection e1 with e1
              injection e1 with e1 e2
              subst e1 e2
              obtain ⟨X2, hX2⟩ : ∃ X : Nat, X = l.getD jy 0 := ⟨_, rfl⟩
              have hcy' : R0.cell? ⟨b3, o3 + jy, none⟩ = some (.int .i64 (X2 : Int)) := by rw [hX2]; exact hcy
              have hX2lt : X2 < j := by rw [hX2]; exact HOBS.out.lt hlt
              have HS2 := objs_shape HOBS.out hlt
              have hh := HHD.out jy hlt
              rw [← hX2] at HS2 hh
              obtain ⟨z1, z2, z3⟩ := shp_same HVP.out HSV.out hh
              have hr2 := shp_range (s := K) (n := m) (F := F) (a := (X2 : Int)) HU64.out
              obtain ⟨R2, hR2⟩ : ∃ R, shpR K j wd m F X2 = R := ⟨_, rfl⟩
              obtain ⟨D2, hD2⟩ : ∃ D, shpD K j wd m F X2 = D := ⟨_, rfl⟩
              have C1 := objShape_any K (some ⟨b5, o5, none⟩) (some ⟨g5, 0, none⟩) j c5 m c6 W2 F X2 R0 (HA9.out.next HBR.out) (HT9.out.next HBR.out) HSU.out (by omega) (by omega)
              rw [z1, z2, z3, HS2, hR2, hD2] at C1
              have C2 := Lib.hid (show ∀ W, Below R0.heap.size R0 W → Calls Try.prog 19 #[.agg #[.int .i64 K, .slice (some ⟨b6, o6, none⟩) j d, .slice (some ⟨gb, 0, none⟩) m d'], .int .i64 X2] W (Gives3 R2 D2 0 W) from fun W hW => by
                have h := objShape_any K (some ⟨b6, o6, none⟩) (some ⟨gb, 0, none⟩) j d m d' wd F X2 W ((HAS.out.next HBR.out).next hW) ((HTS.out.next HBR.out).next hW) HU64.out (by omega) (by omega)
                rw [HS2, hR2, hD2] at h
                exact h)
              have hj3 : 0 ≤ (jy : Int) ∧ (jy : Int) < (l.length : Int) := by omega
              clear hcy hX2 HS2 hh z1 z2 z3 hR2 hD2 hr2
              go_wp2_with fail
              refine C1.mono ?_
              rintro e R1 ⟨rfl, hb⟩
              have HR1 := Lib.hid hb
              have BS1 := BS0.next hb
              clear hb u0 u1 u2 uz C1 BT0 BS0 hcy'
              have u0 := BS1.cell 0
              have u1 := BS1.cell 1
              have u2 := BS1.cell 2
              have uz := BS1.lt
              simp at u0 u1 u2
              go_wp2_with fail
              refine (C2.out _ HR1.out).mono ?_
              rintro e R3 ⟨rfl, hb⟩
              have HR3 := Lib.hid (below_next HBR.out (Nat.le_refl _) (below_next HR1.out (Nat.le_refl _) hb))
              clear hb u0 u1 u2 uz C2 BS1
              go_wp2_with fail
              go_roundw
              case rel => exact ⟨jy + 1, by omega, by first | rfl | go_num | simp, HR3.out⟩
              case measure => simp [intOf]; omega
            · obtain rfl : jy = l.length := by omega
              have hlt3 : ¬ (l.length : Int) < (l.length : Int) := by omega
              go_wp2_with fail
              go_ret
              exact ⟨by simp; omega, below_next HB9.out (Nat.le_refl _) HBR.out⟩

theorem walkKeeps (Al : Option Addr) (nl cl : Nat) (a i v : Int) (r : Bool) (w : World) (hL : ListP w w.heap.size Al nl cl) (i0 : -9223372036854775808 ≤ a) (i1 : a ≤ 9223372036854775807) (j0 : -9223372036854775808 ≤ i) (j1 : i ≤ 9223372036854775807) (v0 : 0 ≤ v) (v1 : v < 18446744073709551616) :
    Calls Try.prog 6 #[.slice Al nl cl, .int .i64 a, .int .i64 i, .int .u64 v, .bool r] w fun e w' => e = .returned (.bool true) ∧ Below w.heap.size w w' := by
  cases r
  · exact walkKeepsF Al nl cl a i v w hL i0 i1 j0 j1 v0 v1
  · exact walkKeepsT Al nl cl a i v w hL i0 i1 j0 j1 v0 v1
end Go.Proofs.Ytfjdafnejhgijaa
