/-
  The walk of BumpDrops. (Made by mkbdr-s9.py.)
-/
import Derived.Test.YthlkodhkhkdggaaDoorGvp
import Derived.Test.YthlkodhkhkdggaaDoorAwk
import Derived.Test.YthlkodhkhkdggaaDoorMSpoilt
import Derived.Deep.RegionHeld3
import Derived.Deep.DeepCutAuto
namespace Go.Proofs.YthlkodhkhkdggaaDoor
open Go.RowKit
set_option maxRecDepth 100000
set_option linter.unusedVariables false

set_option maxHeartbeats 40000000 in
theorem walkBDrops (Al : Option Addr) (nl cl : Nat) (which : Int) (w : World) (hL : ListP w w.heap.size Al nl cl) (hD : Db w) (a0 : -9223372036854775808 ≤ which) (a1 : which ≤ 9223372036854775807) :
    Calls Tryd.prog 6 #[.slice Al nl cl, .int .i64 which] w fun e w' => e = .returned (.bool true) ∧ Below w.heap.size w w' := by
  have HD := Lib.hid hD
  have HL := Lib.hid hL
  clear hL hD
  go_enter Tryd.func6, Tryd.ntmps6
  go_wp2_with fail
  refine (deck_any Al nl cl w HL.out).mono ?_
  rintro e U2 ⟨rfl, hd, hb, hz⟩
  have HDK := Lib.hid hd
  have HBU2 := Lib.hid hb
  clear hd hb
  go_wp2_with fail
  refine (space_any w.heap.size U2 HDK.out).mono ?_
  rintro e U3 ⟨K, m, B, d, gb, d', wd, F, L, rfl, kk0, kk1, m0, m1, hoA, hoT, ⟨hvp, how, hu⟩, ⟨_, I, BI', hBI, hLR, hAll⟩, hG⟩
  have HBU3 := Lib.hid (below_turn HBU2.out hG (by omega))
  have HVP := Lib.hid hvp
  have HALL := Lib.hid hAll
  have hmk0 : 0 < m * 2 ^ K := Nat.mul_pos (by omega) (Nat.two_pow_pos K)
  have hmk1 : m * 2 ^ K ≤ 16384 := prod_le (by omega) (by omega)
  obtain ⟨mk, hmk⟩ : ∃ mk, mk = m * 2 ^ K := ⟨_, rfl⟩
  rw [← hmk] at hoA HVP hmk0 hmk1 ⊢
  have HMK := Lib.hid hmk
  obtain ⟨V, hV⟩ : ∃ V, V = U3.alloc (.cells #[.int .i64 K, .slice B mk d, .slice (some ⟨gb, 0, none⟩) m d'] 25) := ⟨_, rfl⟩
  have hbv : Below U3.heap.size U3 V := by rw [hV]; exact (Below.refl _ _).alloc (Nat.le_refl _) _
  obtain ⟨SB, hSB⟩ : ∃ b, b = U3.heap.size := ⟨_, rfl⟩
  have BY := Lib.hid (show Blk V SB 25 #[.int .i64 K, .slice B mk d, .slice (some ⟨gb, 0, none⟩) m d'] by rw [hV, hSB]; exact Blk.new _ _ _)
  have HBV := Lib.hid (below_next HBU3.out (Nat.le_refl _) hbv)
  have HSA := Lib.hid (hoA.arr.next hbv)
  have HST := Lib.hid (hoT.tab.next hbv)
  have HLV := Lib.hid (hLR.below hbv)
  have hI17 := allP_len hAll
  have HVV := Lib.hid hV
  have HSB := Lib.hid hSB
  obtain ⟨LA, LC, hLe, hlc⟩ := row_slice hLR.1
  subst hLe
  obtain ⟨li, hli⟩ : ∃ x, x = I.length := ⟨_, rfl⟩
  have HROW := Lib.hid (show ∀ t i, I[t]? = some i → ∃ g cap, Value.slice LA I.length LC = .slice (some ⟨g, 0, none⟩) I.length cap ∧ BI' ≤ g ∧ g < U3.heap.size ∧ g < V.heap.size ∧ V.cell? ⟨g, t * 5, none⟩ = some (.int .i64 i.sq) ∧ V.cell? ⟨g, t * 5 + 1, none⟩ = some (.int .i64 i.bt) ∧ V.cell? ⟨g, t * 5 + 2, none⟩ = some (.int .i64 i.fi) ∧ V.cell? ⟨g, t * 5 + 3, none⟩ = some (.int .i64 i.la) ∧ V.cell? ⟨g, t * 5 + 4, none⟩ = some (.int .i64 i.wo) from fun t i h => lrow_cells HLV.out h)
  have HLI := Lib.hid hli
  rw [← hli] at hI17 hlc ⊢
  clear hV hSB hbv hG HBU2 HDK hz hoA hoT hmk hvp how hu hLR hAll hBI hli HLV
  by_cases hl0 : li = 0
  · subst hl0
    go_wp2_with (go_at_call 9; rw [← HVV.out]; refine (awake9_any _ (HD.out.next HBV.out)).mono ?_; rintro e w6 ⟨rfl, b6⟩; have HB6 := Lib.hid b6; clear b6)
    go_ret
    exact ⟨rfl, below_next HBV.out (Nat.le_refl _) HB6.out⟩
  have hlb : ((li : Int) == 0) = false := by simp; omega
  have hmod := Int.emod_nonneg which (show (li : Int) ≠ 0 by omega)
  have hmod2 := Int.emod_lt_of_pos which (show 0 < (li : Int) by omega)
  obtain ⟨z, hz⟩ : ∃ z : Nat, which % (li : Int) = z := ⟨(which % (li : Int)).toNat, by omega⟩
  rw [hz] at hmod hmod2
  have HZ := Lib.hid hz
  clear hz hl0
  have hzl : z < I.length := by rw [← HLI.out]; omega
  obtain ⟨g, cap, hE, _, _, hg, x0, x1, x2, x3, x4⟩ := HROW.out z I[z] (List.getElem?_eq_getElem hzl)
  injection hE with hE1 _ hE2
  subst hE1
  obtain ⟨hinc, hwo, _⟩ := HALL.out z I[z] (List.getElem?_eq_getElem hzl)
  obtain ⟨sq, hsq⟩ : ∃ x, x = I[z].sq := ⟨_, rfl⟩
  obtain ⟨bt, hbt⟩ : ∃ x, x = I[z].bt := ⟨_, rfl⟩
  obtain ⟨fi, hfi⟩ : ∃ x, x = I[z].fi := ⟨_, rfl⟩
  obtain ⟨la, hla⟩ : ∃ x, x = I[z].la := ⟨_, rfl⟩
  obtain ⟨wo, hwo'⟩ : ∃ x, x = I[z].wo := ⟨_, rfl⟩
  rw [← hsq] at hinc x0
  rw [← hbt] at hinc x1
  rw [← hfi] at hinc x2
  rw [← hla] at hinc x3
  rw [← hwo'] at hinc hwo x4
  have HINC := Lib.hid hinc
  have HWO := Lib.hid hwo
  have hz2 : 0 ≤ (z : Int) ∧ (z : Int) < li := by omega
  clear hsq hbt hfi hla hwo' hinc hwo HROW HALL
  obtain ⟨X, hX⟩ : ∃ X, X = V.alloc (.cells #[.int .i64 sq, .int .i64 bt, .int .i64 fi, .int .i64 la, .int .i64 wo] 27) := ⟨_, rfl⟩
  have hbx : Below V.heap.size V X := by rw [hX]; exact (Below.refl _ _).alloc (Nat.le_refl _) _
  obtain ⟨JB, hJB⟩ : ∃ b, b = V.heap.size := ⟨_, rfl⟩
  have BJ := Lib.hid (show Blk X JB 27 #[.int .i64 sq, .int .i64 bt, .int .i64 fi, .int .i64 la, .int .i64 wo] by rw [hX, hJB]; exact Blk.new _ _ _)
  have BY5 := Lib.hid (BY.out.next hbx)
  have HBX := Lib.hid (below_next HBV.out (Nat.le_refl _) hbx)
  have HSA5 := Lib.hid (HSA.out.next hbx)
  have HST5 := Lib.hid (HST.out.next hbx)
  have HXX := Lib.hid hX
  have HJB := Lib.hid hJB
  clear hX hJB hbx BY HSA HST
  obtain ⟨hfit, hcnt, _⟩ := inc_fits HINC.out HWO.out HMK.out
  have hsq0 : 0 ≤ sq := HINC.out.1
  have hincB : incB K mk wd m F sq bt fi la wo = true := incB_mk HVP.out (by rw [Int.toNat_natCast]; exact hfit)
  have hdrp : drpE K mk wd m F sq bt fi la wo = 0 := by
    rw [drpE_give hincB (by have := HWO.out; omega)]
    refine give_ok ?_ (by rw [← cntO_cntP]; omega)
    rw [validB_yes HVP.out]
    have := HINC.out.2.1
    exact decide_eq_true ⟨hsq0, by omega⟩
  have hvt : validB K mk (giveW wd F sq K m) m (giveF F sq m) = true := validB_yes (give_valid HVP.out hsq0)
  obtain ⟨us, hus⟩ : ∃ x, x = m - cntP (owB F (-1)) m := ⟨_, rfl⟩
  obtain ⟨ut, hut⟩ : ∃ x, x = m - cntP (owB (giveF F sq m) (-1)) m := ⟨_, rfl⟩
  obtain ⟨cz, hcz⟩ : ∃ x, x = Hd.ceilZ wo K := ⟨_, rfl⟩
  have hsub : IntKind.i64.wrap ((us : Int) - cz) = (ut : Int) ∧ us ≤ 64 := by
    obtain ⟨_, _, _, _, W, hW, _, hcW⟩ := HINC.out
    have h1 := give_cnt (F := F) (n := m) (o := sq) (by omega) m (Nat.le_refl _)
    rw [← cntO_cntP F sq, hcW] at h1
    have h2 := cntP_le (owB (giveF F sq m) (-1)) m
    have hWb : W ≤ 16384 := by
      obtain ⟨⟨_, _, _, _, W', hW', hle, _⟩, _⟩ := hfit
      omega
    rw [hW, ceilZ_nat (by omega) (by omega)] at hcz
    refine ⟨?_, by omega⟩
    rw [IntWalk.i64_in _ (by omega)]
    omega
  have HDRP := Lib.hid hdrp
  have HVT := Lib.hid hvt
  have HUS := Lib.hid hus
  have HUT := Lib.hid hut
  have HCZ := Lib.hid hcz
  have HSQ0 := Lib.hid hsq0
  have HSUB := Lib.hid hsub.1
  have hus64 := hsub.2
  clear hfit hcnt hincB hdrp hvt hus hut hcz hsub
  go_upto_region 5 with (go_at_call 17; rw [← HVV.out]; refine (mod_any which (li : Int) (by omega) (by omega) a0 a1 _).mono ?_; rintro e w' ⟨rfl, rfl⟩; rw [HZ.out])
  rw [← HXX.out]
  try rw [← HJB.out]
  try rw [← HSB.out]
  clear HXX HJB HVV HSB x0 x1 x2 x3 x4
  have p0 := BY5.out.cell 0
  have p1 := BY5.out.cell 1
  have p2 := BY5.out.cell 2
  simp at p0 p1 p2
  have q0 := BJ.out.cell 0
  have q1 := BJ.out.cell 1
  have q2 := BJ.out.cell 2
  have q3 := BJ.out.cell 3
  have q4 := BJ.out.cell 4
  simp at q0 q1 q2 q3 q4
  have zs0 := BY5.out.lt
  have zj0 := BJ.out.lt
  go_wp2_with fail
  refine (drop9_any K B (some ⟨gb, 0, none⟩) mk d m d' wd F sq bt fi la wo X HSA5.out HST5.out (HD.out.next HBX.out)).mono ?_
  intro e X1 hdx
  rcases hdx with ⟨x, h1, h2, _⟩ | ⟨_, A1, c1, g1, c2, rfl, ho, ht, hb1⟩
  · exact absurd (h1.symm.trans HDRP.out) h2
  rw [Int.toNat_natCast] at ho
  clear p0 p1 p2 q0 q1 q2 q3 q4 zs0 zj0
  obtain ⟨Y, hY⟩ : ∃ Y, Y = X1.alloc (.cells #[.int .i64 K, .slice A1 mk c1, .slice (some ⟨g1, 0, none⟩) m c2] 25) := ⟨_, rfl⟩
  have hby : Below X.heap.size X Y := by rw [hY]; exact below_alloc9 hb1 _
  obtain ⟨TB, hTB⟩ : ∃ b, b = X1.heap.size := ⟨_, rfl⟩
  have BT := Lib.hid (show Blk Y TB 25 #[.int .i64 K, .slice A1 mk c1, .slice (some ⟨g1, 0, none⟩) m c2] by rw [hY, hTB]; exact Blk.new _ _ _)
  have BS6 := Lib.hid (BY5.out.next hby)
  have BJ6 := Lib.hid (BJ.out.next hby)
  have HBY := Lib.hid (below_next HBX.out (Nat.le_refl _) hby)
  have HTA := Lib.hid (show Arr Y Y.heap.size A1 mk c1 (giveW wd F sq K m) by rw [hY]; exact (ho.alloc9 _).arr)
  have HTT := Lib.hid (show Tab Y Y.heap.size (some ⟨g1, 0, none⟩) m c2 (giveF F sq m) by rw [hY]; exact (ht.alloc9 _).tab)
  have HSA6 := Lib.hid (HSA5.out.next hby)
  have HST6 := Lib.hid (HST5.out.next hby)
  have HYY := Lib.hid hY
  have HTB := Lib.hid hTB
  clear hY hTB hby ho ht hb1 BY5 BJ HBX HSA5 HST5
  go_upto_region 6 with fail
  rw [← HYY.out]
  try rw [← HTB.out]
  clear HYY HTB
  have p0 := BS6.out.cell 0
  have p1 := BS6.out.cell 1
  have p2 := BS6.out.cell 2
  simp at p0 p1 p2
  have t0 := BT.out.cell 0
  have t1 := BT.out.cell 1
  have t2 := BT.out.cell 2
  simp at t0 t1 t2
  have q0 := BJ6.out.cell 0
  have q1 := BJ6.out.cell 1
  have q2 := BJ6.out.cell 2
  have q3 := BJ6.out.cell 3
  have q4 := BJ6.out.cell 4
  simp at q0 q1 q2 q3 q4
  have zs : SB < Y.heap.size := BS6.out.lt
  have zt : TB < Y.heap.size := BT.out.lt
  have zj : JB < Y.heap.size := BJ6.out.lt
  have hc : Below Y.heap.size Y Y.drew := (Below.refl _ _).drew
  have hsub := HSUB.out
  go_cut [71] (fun q wx => q = .bool false ∧ Below Y.heap.size Y wx)
  case first => as_aux_lemma =>
    go_region_held3 (fun w' => w'.cell? ⟨SB, 0, none⟩ = some (.int .i64 K) ∧ w'.cell? ⟨SB, 1, none⟩ = some (.slice B mk d) ∧ w'.cell? ⟨SB, 2, none⟩ = some (.slice (some ⟨gb, 0, none⟩) m d') ∧ w'.cell? ⟨TB, 0, none⟩ = some (.int .i64 K) ∧ w'.cell? ⟨TB, 1, none⟩ = some (.slice A1 mk c1) ∧ w'.cell? ⟨TB, 2, none⟩ = some (.slice (some ⟨g1, 0, none⟩) m c2) ∧ w'.cell? ⟨JB, 0, none⟩ = some (.int .i64 sq) ∧ w'.cell? ⟨JB, 1, none⟩ = some (.int .i64 bt) ∧ w'.cell? ⟨JB, 2, none⟩ = some (.int .i64 fi) ∧ w'.cell? ⟨JB, 3, none⟩ = some (.int .i64 la) ∧ w'.cell? ⟨JB, 4, none⟩ = some (.int .i64 wo))
      (first | (with_reducible exact ⟨(hc.cell (p := ⟨_, 0, none⟩) zs).trans p0, (hc.cell (p := ⟨_, 1, none⟩) zs).trans p1, (hc.cell (p := ⟨_, 2, none⟩) zs).trans p2, (hc.cell (p := ⟨_, 0, none⟩) zt).trans t0, (hc.cell (p := ⟨_, 1, none⟩) zt).trans t1, (hc.cell (p := ⟨_, 2, none⟩) zt).trans t2, (hc.cell (p := ⟨_, 0, none⟩) zj).trans q0, (hc.cell (p := ⟨_, 1, none⟩) zj).trans q1, (hc.cell (p := ⟨_, 2, none⟩) zj).trans q2, (hc.cell (p := ⟨_, 3, none⟩) zj).trans q3, (hc.cell (p := ⟨_, 4, none⟩) zj).trans q4⟩) | go_keep)
      (first
        | (go_at_call 33; (with_reducible show Calls _ _ #[.agg #[_, _, .slice (some ⟨g1, 0, none⟩) _ _]] _ _); refine (refUsed_any K (.slice A1 mk c1) (some ⟨g1, 0, none⟩) m c2 (giveF F sq m) _ (HTT.out.next hc) (by omega)).mono ?_; rintro e wq ⟨rfl, hb⟩; rw [← HUT.out]; have hc := below_next hc (Nat.le_refl _) hb)
        | (go_at_call 33; (with_reducible show Calls _ _ #[.agg #[_, _, .slice (some ⟨gb, 0, none⟩) _ _]] _ _); refine (refUsed_any K (.slice B mk d) (some ⟨gb, 0, none⟩) m d' F _ (HST6.out.next hc) (by omega)).mono ?_; rintro e wq ⟨rfl, hb⟩; rw [← HUS.out]; have hc := below_next hc (Nat.le_refl _) hb)
        | (go_at_call 18; refine (frames9_any K wo _ _ sq bt fi la _).mono ?_; rintro e wq ⟨rfl, hb⟩; rw [← HCZ.out]; have hc := below_next hc (Nat.le_refl _) hb)
        | (go_at_call 35; refine (refValid_any K A1 (some ⟨g1, 0, none⟩) mk c1 m c2 (giveW wd F sq K m) (giveF F sq m) _ (HTA.out.next hc) (HTT.out.next hc)).mono ?_; rintro e wq ⟨rfl, hb⟩; rw [HVT.out]; have hc := below_next hc (Nat.le_refl _) hb))
    all_goals
      have HCC := Lib.hid hc
      clear hc
      go_wp2
      go_meet
      exact ⟨rfl, HCC.out⟩
  case rest =>
    obtain ⟨Z, rfl⟩ : ∃ Z, Z = wc := ⟨_, rfl⟩
    obtain ⟨rfl, hcut⟩ := hcut
    have BS7 := Lib.hid (BS6.out.next hcut)
    have BT7 := Lib.hid (BT.out.next hcut)
    have BJ7 := Lib.hid (BJ6.out.next hcut)
    have HBZ := Lib.hid (below_next HBY.out (Nat.le_refl _) hcut)
    have HTA7 := Lib.hid (HTA.out.next hcut)
    have HTT7 := Lib.hid (HTT.out.next hcut)
    have HSA7 := Lib.hid (HSA6.out.next hcut)
    have HST7 := Lib.hid (HST6.out.next hcut)
    clear hcut hc hsub p0 p1 p2 t0 t1 t2 q0 q1 q2 q3 q4 zs zt zj BS6 BT BJ6 HBY HTA HTT HSA6 HST6
    have p0 := BS7.out.cell 0
    have p1 := BS7.out.cell 1
    have p2 := BS7.out.cell 2
    simp at p0 p1 p2
    have zs : SB < Z.heap.size := BS7.out.lt
    go_wp2_with fail
    clear p0 p1 p2 zs
    go_loopw [10, 11, 12, 75] (fun _ _ _ i wr => ∃ f : Nat, f ≤ m ∧ i = .int .i64 f ∧ Below Z.heap.size Z wr) (fun _ _ _ i _ => m - (intOf i).toNat)
    case atStart => exact ⟨0, Nat.zero_le _, rfl, Below.refl _ _⟩
    case round =>
      obtain ⟨R, rfl⟩ : ∃ R, R = wr := ⟨_, rfl⟩
      obtain ⟨f, hf, rfl, hb⟩ := hrel
      by_cases hlt : f < m
      · have hf2 : 0 ≤ (f : Int) ∧ (f : Int) < m := by omega
        have HSTR := Lib.hid (HST7.out.next hb)
        obtain ⟨zgb, s0, s1, s2⟩ := HSTR.out.cells f hlt
        obtain ⟨ow, how⟩ : ∃ x, x = (F f).ow := ⟨_, rfl⟩
        obtain ⟨st, hst⟩ : ∃ x, x = (F f).st := ⟨_, rfl⟩
        obtain ⟨nx, hnx⟩ : ∃ x, x = (F f).nx := ⟨_, rfl⟩
        rw [← how] at s0
        rw [← hst] at s1
        rw [← hnx] at s2
        simp only [Nat.zero_add] at s0 s1 s2
        obtain ⟨R1, hR1⟩ : ∃ W, W = R.alloc (.cells #[.int .i64 ow, .int .i64 st, .int .i64 nx] 63) := ⟨_, rfl⟩
        have hbr : Below Z.heap.size Z R1 := by rw [hR1]; exact below_alloc9 hb _
        have BF := Lib.hid (show Blk R1 R.heap.size 63 #[.int .i64 ow, .int .i64 st, .int .i64 nx] by rw [hR1]; exact Blk.new _ _ _)
        have BS8 := BS7.out.next hbr
        have BT8 := BT7.out.next hbr
        have BJ8 := BJ7.out.next hbr
        have HTAR := Lib.hid (HTA7.out.next hbr)
        have HTTR := Lib.hid (HTT7.out.next hbr)
        have HSAR := Lib.hid (HSA7.out.next hbr)
        have HBR := Lib.hid hbr
        have HR1 := Lib.hid hR1
        have HOW := Lib.hid how
        have HSTT := Lib.hid hst
        have HNX := Lib.hid hnx
        clear hR1 hbr hb how hst hnx
        go_upto_region 11 with fail
        rw [← HR1.out]
        clear HR1 s0 s1 s2 zgb HSTR
        have p0 := BS8.cell 0
        have p1 := BS8.cell 1
        have p2 := BS8.cell 2
        simp at p0 p1 p2
        have t0 := BT8.cell 0
        have t1 := BT8.cell 1
        have t2 := BT8.cell 2
        simp at t0 t1 t2
        have q0 := BJ8.cell 0
        have q1 := BJ8.cell 1
        have q2 := BJ8.cell 2
        have q3 := BJ8.cell 3
        have q4 := BJ8.cell 4
        simp at q0 q1 q2 q3 q4
        have x0 := BF.out.cell 0
        have x1 := BF.out.cell 1
        have x2 := BF.out.cell 2
        simp at x0 x1 x2
        have zs : SB < R1.heap.size := BS8.lt
        have zt : TB < R1.heap.size := BT8.lt
        have zj : JB < R1.heap.size := BJ8.lt
        have zx : R.heap.size < R1.heap.size := BF.out.lt
        obtain ⟨zg1, g0, g1', g2⟩ := HTTR.out.cells f hlt
        simp only [Nat.zero_add] at g0 g1' g2
        have HBS8 := Lib.hid BS8
        have HBT8 := Lib.hid BT8
        clear BS8 BT8 BJ8
        by_cases hown : ow = sq
        · have hgf := giveF_own (F := F) (n := m) hlt (HOW.out.symm.trans hown)
          rw [hgf] at g0 g1' g2
          have k0 : R1.cell? ⟨g1, f * 3, none⟩ = some (.int .i64 (-1)) := g0
          subst hown
          clear g0 g1' g2
          have HBR2 := Lib.hid HBR.out
          go_wp2
          exact ⟨⟨f + 1, by omega, by go_num, HBR2.out⟩, by simp [intOf]; omega⟩
        · have hgf := giveF_other (F := F) (n := m) (o := sq) (j := f) (fun e => hown (HOW.out.trans e))
          rw [hgf, ← HOW.out] at g0
          rw [hgf, ← HSTT.out] at g1'
          rw [hgf, ← HNX.out] at g2
          have hob : (ow == sq) = false := by simpa using hown
          obtain ⟨z2, hz2e⟩ : ∃ z : Nat, z = 2 ^ K := ⟨_, rfl⟩
          have hz2c : (2 : Int) ^ K = (z2 : Int) := by rw [hz2e]; simp
          have hz2b : 8 ≤ z2 ∧ z2 ≤ 16 := by
            rw [hz2e]
            rcases (by omega : K = 3 ∨ K = 4) with e | e <;> subst e <;> decide
          have hmz : mk = m * z2 := by rw [HMK.out, hz2e]
          have hle1 : (f + 1) * z2 ≤ m * z2 := Nat.mul_le_mul_right _ hlt
          have hex : (f + 1) * z2 = f * z2 + z2 := by rw [Nat.add_mul, Nat.one_mul]
          obtain ⟨fa, hfa⟩ : ∃ x : Nat, x = f * z2 := ⟨_, rfl⟩
          have w1 : IntKind.i64.wrap ((f : Int) * 2 ^ K) = (fa : Int) := by
            have e1 : (f : Int) * 2 ^ K = ((fa : Nat) : Int) := by rw [hz2c, hfa]; simp
            rw [e1, IntWalk.i64_in _ (by omega)]
          obtain ⟨fb, hfb⟩ : ∃ x : Nat, x = fa + z2 := ⟨_, rfl⟩
          have w2 : IntKind.i64.wrap (((f : Int) + 1) * 2 ^ K) = (fb : Int) := by
            have e1 : ((f : Int) + 1) * 2 ^ K = ((fa + z2 : Nat) : Int) := by
              rw [hz2c, hfa, ← hex]; simp
            rw [e1, hfb, IntWalk.i64_in _ (by omega)]
          have hfab : fb ≤ mk := by rw [hmz, hfb, hfa]; omega
          have hab : fa ≤ fb := by omega
          have HZ2 := Lib.hid hz2e
          have HFA := Lib.hid (show fa = f * 2 ^ K by rw [hfa, hz2e])
          have HFB := Lib.hid (show fb = fa + 2 ^ K by rw [hfb, hz2e])
          have HNOT := Lib.hid (show (F f).ow ≠ sq from fun e => hown (HOW.out.trans e))
          clear hz2e hz2c hmz hle1 hex hfa hfb hown hgf
          go_wp2_with fail
          go_region
          go_wp2_with fail
          go_loopw [12] (fun a wr2 => ∃ av : Nat, fa ≤ av ∧ av ≤ fb ∧ a = .int .i64 av ∧ Below R1.heap.size R1 wr2) (fun a _ => fb - (intOf a).toNat)
          case atStart => exact ⟨fa, Nat.le_refl _, hab, rfl, (Below.refl _ _).drew⟩
          case round =>
            obtain ⟨W0, rfl⟩ : ∃ W0, W0 = wr := ⟨_, rfl⟩
            obtain ⟨av, ha1, ha2, rfl, hb⟩ := hrel
            have BS9 := HBS8.out.next hb
            have BT9 := HBT8.out.next hb
            have HK := Lib.hid hb
            have y0 := BS9.cell 0
            have y1 := BS9.cell 1
            have y2 := BS9.cell 2
            simp at y0 y1 y2
            have u0 := BT9.cell 0
            have u1 := BT9.cell 1
            have u2 := BT9.cell 2
            simp at u0 u1 u2
            have zs9 : SB < W0.heap.size := BS9.lt
            have zt9 : TB < W0.heap.size := BT9.lt
            by_cases hq : av < fb
            · have hqi : (av : Int) < (fb : Int) := by omega
              obtain ⟨b1, o1, hA1, zb1, e1⟩ := (HTAR.out.next hb).at_ av (by omega)
              obtain ⟨b2, o2, hA2, zb2, e2⟩ := (HSAR.out.next hb).at_ av (by omega)
              have hgw : giveW wd F sq K m av = wd av := by
                have h := giveW_other (wd := wd) (n := m) (k := K) (f := f) (a := av - fa) (by have := HFB.out; omega) HNOT.out
                rw [← HFA.out, show fa + (av - fa) = av by omega] at h
                exact h
              rw [hgw] at e1
              subst hA1 hA2
              obtain ⟨vv, hvv⟩ : ∃ x, x = wd av := ⟨_, rfl⟩
              rw [← hvv] at e1 e2
              have hav : 0 ≤ (av : Int) ∧ (av : Int) < mk := by omega
              clear hgw hvv hb BS9 BT9
              go_wp2_with fail
              go_region
              go_wp2
              exact ⟨⟨av + 1, by omega, by omega, by go_num, HK.out.drew⟩, by simp [intOf]; omega⟩
            · obtain rfl : av = fb := by omega
              have hqi : ¬ (av : Int) < (av : Int) := by omega
              have HKR := Lib.hid (below_next HBR.out (Nat.le_refl _) hb)
              clear hb BS9 BT9
              go_wp2
              exact ⟨⟨f + 1, by omega, by go_num, HKR.out⟩, by simp [intOf]; omega⟩
      · obtain rfl : f = m := by omega
        have hf2 : ¬ (f : Int) < f := by omega
        have K9 := Lib.hid (below_next HBZ.out (Nat.le_refl _) hb)
        clear hb
        go_wp2
        go_ret
        exact ⟨rfl, K9.out⟩
end Go.Proofs.YthlkodhkhkdggaaDoor
