/-
  The walk of BumpAllocs. (Made by mklaw-s9.py.)
-/
import Derived.Test.YthlkodhkhkdggaaDoorRow9
import Derived.Deep.RegionHeld3
import Derived.Deep.DeepCutAuto
import Derived.Deep.CutBlock
namespace Go.Proofs.YthlkodhkhkdggaaDoor
open Go.RowKit
set_option maxRecDepth 100000
set_option linter.unusedVariables false

set_option maxHeartbeats 40000000 in
theorem walkBAllocs (s : Int) (A A' : Option Addr) (nw c n c' : Nat) (wd0 : Nat → Int) (F0' : Nat → Fr) (i0 i1 i2 i3 i4 : Int) (Al : Option Addr) (nl cl : Nat) (which what by_ nn : Int) (w : World) (hA : Arr w w.heap.size A nw c wd0) (hT : Tab w w.heap.size A' n c' F0') (hL : ListP w w.heap.size Al nl cl) (hD : Db w)
    (c0 : -9223372036854775808 ≤ which) (c1 : which ≤ 9223372036854775807) (d0 : -9223372036854775808 ≤ what) (d1 : what ≤ 9223372036854775807) (e0 : -9223372036854775808 ≤ by_) (e1 : by_ ≤ 9223372036854775807) (f0 : -9223372036854775808 ≤ nn) (f1 : nn ≤ 9223372036854775807) :
    Calls Tryd.prog 4 #[.agg #[.int .i64 s, .slice A nw c, .slice A' n c'], .agg #[.int .i64 i0, .int .i64 i1, .int .i64 i2, .int .i64 i3, .int .i64 i4], .slice Al nl cl, .int .i64 which, .int .i64 what, .int .i64 by_, .int .i64 nn] w fun e w' => e = .returned (.bool true) ∧ Below w.heap.size w w' := by
  obtain ⟨U, hU⟩ : ∃ U, U = (w.alloc (.cells #[.int .i64 s, .slice A nw c, .slice A' n c'] 25)).alloc (.cells #[.int .i64 i0, .int .i64 i1, .int .i64 i2, .int .i64 i3, .int .i64 i4] 27) := ⟨_, rfl⟩
  have BX := Lib.hid (show Blk U w.heap.size 25 #[.int .i64 s, .slice A nw c, .slice A' n c'] by rw [hU]; exact (Blk.new _ _ _).alloc _)
  have BI := Lib.hid (show Blk U (w.heap.size + 1) 27 #[.int .i64 i0, .int .i64 i1, .int .i64 i2, .int .i64 i3, .int .i64 i4] by rw [hU]; exact Blk.newAt _ _ _ _ (by simp))
  have hbu : Below w.heap.size w U := by rw [hU]; exact ((Below.refl _ _).alloc (Nat.le_refl _) _).alloc (by simp) _
  have HBU := Lib.hid hbu
  have HU := Lib.hid hU
  have HL := Lib.hid (hL.next hbu)
  have HA0 := Lib.hid hA
  have HT0 := Lib.hid hT
  have HD := Lib.hid hD
  have p0 := BX.out.cell 0
  have p1 := BX.out.cell 1
  have p2 := BX.out.cell 2
  simp at p0 p1 p2
  clear hL hU hbu hA hT hD
  go_enter Tryd.func4, Tryd.ntmps4
  go_wp2_with fail
  rw [← HU.out]
  refine (small_any s A A' nw c n c' U).mono ?_
  rintro e U1 ⟨rfl, hb⟩
  have BX1 := Lib.hid (BX.out.next hb)
  have BI1 := Lib.hid (BI.out.next hb)
  have HBU1 := Lib.hid (below_next HBU.out (Nat.le_refl _) hb)
  have HL1 := Lib.hid (HL.out.next hb)
  clear hb BX BI HBU HL HU p0 p1 p2
  obtain ⟨sm, hsm, hn⟩ : ∃ b, (decide (nw ≤ 3000) && decide (n ≤ 80)) = b ∧ (b = true → nw ≤ 3000 ∧ n ≤ 80) := ⟨_, rfl, by simp⟩
  rw [hsm]
  clear hsm
  rcases sm with _ | _
  · go_wp2_with (go_at_call 9; refine (awake9_any _ (HD.out.next HBU1.out)).mono ?_; rintro e w6 ⟨rfl, b6⟩; have HB6 := Lib.hid b6; clear b6)
    go_ret
    exact ⟨rfl, below_next HBU1.out (Nat.le_refl _) HB6.out⟩
  · have hnb := hn rfl
    clear hn
    go_wp2_with fail
    refine (deck_any Al nl cl U1 HL1.out).mono ?_
    rintro e U2 ⟨rfl, hd, hb, hz⟩
    have HDK := Lib.hid hd
    have BX2 := Lib.hid (BX1.out.next hb)
    have BI2 := Lib.hid (BI1.out.next hb)
    have HBU2 := Lib.hid (below_next HBU1.out (Nat.le_refl _) hb)
    have zz := BI1.out.lt
    clear hd hb BX1 BI1 HBU1 HL1
    go_wp2_with fail
    refine (space_any U1.heap.size U2 HDK.out).mono ?_
    rintro e U3 ⟨K, m, B, d, gb, d', wd, F, L, rfl, kk0, kk1, m0, m1, hoA, hoT, ⟨hvp, how, hu⟩, ⟨_, I, BI', hBI, hLR, hAll⟩, hG⟩
    have BX3 := Lib.hid (BX2.out.turn hG (by omega))
    have BI3 := Lib.hid (BI2.out.turn hG (by omega))
    have HBU3 := Lib.hid (below_turn HBU2.out hG (by omega))
    have HVP := Lib.hid hvp
    have hmk0 : 0 < m * 2 ^ K := Nat.mul_pos (by omega) (Nat.two_pow_pos K)
    have hmk1 : m * 2 ^ K ≤ 16384 := prod_le (by omega) (by omega)
    obtain ⟨mk, hmk⟩ : ∃ mk, mk = m * 2 ^ K := ⟨_, rfl⟩
    rw [← hmk] at hoA HVP hmk0 hmk1 ⊢
    obtain ⟨V, hV⟩ : ∃ V, V = U3.alloc (.cells #[.int .i64 K, .slice B mk d, .slice (some ⟨gb, 0, none⟩) m d'] 25) := ⟨_, rfl⟩
    have hbv : Below U3.heap.size U3 V := by rw [hV]; exact (Below.refl _ _).alloc (Nat.le_refl _) _
    obtain ⟨SB, hSB⟩ : ∃ b, b = U3.heap.size := ⟨_, rfl⟩
    have BY := Lib.hid (show Blk V SB 25 #[.int .i64 K, .slice B mk d, .slice (some ⟨gb, 0, none⟩) m d'] by rw [hV, hSB]; exact Blk.new _ _ _)
    have BX4 := Lib.hid (BX3.out.next hbv)
    have BI4 := Lib.hid (BI3.out.next hbv)
    have HBV := Lib.hid (below_next HBU3.out (Nat.le_refl _) hbv)
    have HR4 := Lib.hid (show YV V s A nw c A' n c' from ⟨wd0, F0', (HA0.out.below HBV.out).more HBV.out.size, (HT0.out.below HBV.out).more HBV.out.size⟩)
    have HSA := Lib.hid (hoA.arr.next hbv)
    have HST := Lib.hid (hoT.tab.next hbv)
    have HLV := Lib.hid (hLR.below hbv)
    have hI17 := allP_len hAll
    have HVV := Lib.hid hV
    have HSB := Lib.hid hSB
    clear hV hSB hbv BX3 BI3 HBU3 HA0 HT0 hG BX2 BI2 HBU2 HDK hz hoA hoT hmk hvp how hu hLR hAll hBI
    go_wp2_with fail
    rw [← HVV.out]
    try rw [← HSB.out]
    clear HVV HSB
    refine (pick9_any L I BI' _ which V HLV.out hI17 c0 c1).mono ?_
    rintro e V1 ⟨j0, j1, j2, j3, j4, rfl, hb⟩
    obtain ⟨X, hX⟩ : ∃ X, X = V1.alloc (.cells #[.int .i64 j0, .int .i64 j1, .int .i64 j2, .int .i64 j3, .int .i64 j4] 27) := ⟨_, rfl⟩
    have hbx : Below V.heap.size V X := by rw [hX]; exact below_alloc9 hb _
    obtain ⟨JB, hJB⟩ : ∃ b, b = V1.heap.size := ⟨_, rfl⟩
    have BJ := Lib.hid (show Blk X JB 27 #[.int .i64 j0, .int .i64 j1, .int .i64 j2, .int .i64 j3, .int .i64 j4] by rw [hX, hJB]; exact Blk.new _ _ _)
    have BX5 := Lib.hid (BX4.out.next hbx)
    have BI5 := Lib.hid (BI4.out.next hbx)
    have BY5 := Lib.hid (BY.out.next hbx)
    have HBX := Lib.hid (below_next HBV.out (Nat.le_refl _) hbx)
    have HR5 := Lib.hid (HR4.out.next hbx)
    have HSA5 := Lib.hid (HSA.out.next hbx)
    have HST5 := Lib.hid (HST.out.next hbx)
    have HXX := Lib.hid hX
    have HJB := Lib.hid hJB
    clear hX hJB hbx hb BX4 BI4 BY HBV HR4 HSA HST HLV hI17
    have y0 := BY5.out.cell 0
    have y1 := BY5.out.cell 1
    have y2 := BY5.out.cell 2
    simp at y0 y1 y2
    have yz := BY5.out.lt
    go_upto_region 5 with fail
    rw [← HXX.out]
    try rw [← HJB.out]
    clear HXX HJB
    go_wp2_with fail
    refine (refTake_any K B (some ⟨gb, 0, none⟩) mk d m d' wd F 90 2 X HSA5.out HST5.out).mono ?_
    intro e X1 hto
    obtain ⟨s9, A9, nw9, c9, A9', n9, c9', t9, e9, rfl, hnw9, hn9, hy9, hb⟩ := take_small hto (by omega) (by omega)
    clear y0 y1 y2 yz hto
    obtain ⟨Y, hY⟩ : ∃ Y, Y = X1.alloc (.cells #[.int .i64 s9, .slice A9 nw9 c9, .slice A9' n9 c9'] 25) := ⟨_, rfl⟩
    have hby : Below X.heap.size X Y := by rw [hY]; exact below_alloc9 hb _
    obtain ⟨TB, hTB⟩ : ∃ b, b = X1.heap.size := ⟨_, rfl⟩
    have BT := Lib.hid (show Blk Y TB 25 #[.int .i64 s9, .slice A9 nw9 c9, .slice A9' n9 c9'] by rw [hY, hTB]; exact Blk.new _ _ _)
    have HR9 := Lib.hid (hy9.next (show Below X1.heap.size X1 Y by rw [hY]; exact (Below.refl _ _).alloc (Nat.le_refl _) _))
    have BX6 := Lib.hid (BX5.out.next hby)
    have BI6 := Lib.hid (BI5.out.next hby)
    have BY6 := Lib.hid (BY5.out.next hby)
    have BJ6 := Lib.hid (BJ.out.next hby)
    have HBX6 := Lib.hid (below_next HBX.out (Nat.le_refl _) hby)
    have HR6 := Lib.hid (HR5.out.next hby)
    have HSA6 := Lib.hid (HSA5.out.next hby)
    have HST6 := Lib.hid (HST5.out.next hby)
    have HYY := Lib.hid hY
    have HTB := Lib.hid hTB
    clear hY hTB hby hb hy9 BX5 BI5 BY5 BJ HBX HR5 HSA5 HST5
    obtain ⟨X, rfl⟩ : ∃ X, X = Y := ⟨_, rfl⟩
    have BX5 := BX6
    have BI5 := BI6
    have BY5 := BY6
    have BJ := BJ6
    have HBX := HBX6
    have HR5 := HR6
    have HSA5 := HSA6
    have HST5 := HST6
    clear BX6 BI6 BY6 BJ6 HBX6 HR6 HSA6 HST6
    go_upto_region 6 with fail
    rw [← HYY.out]
    try rw [← HTB.out]
    clear HYY HTB
    have p0 := BX5.out.cell 0
    have p1 := BX5.out.cell 1
    have p2 := BX5.out.cell 2
    simp at p0 p1 p2
    have q0 := BY5.out.cell 0
    have q1 := BY5.out.cell 1
    have q2 := BY5.out.cell 2
    simp at q0 q1 q2
    have t0 := BT.out.cell 0
    have t1 := BT.out.cell 1
    have t2 := BT.out.cell 2
    simp at t0 t1 t2
    have zt : TB < X.heap.size := BT.out.lt
    have zx : w.heap.size < X.heap.size := BX5.out.lt
    have zi : w.heap.size + 1 < X.heap.size := BI5.out.lt
    have zy : SB < X.heap.size := BY5.out.lt
    have zj : JB < X.heap.size := BJ.out.lt
    have hc : Below X.heap.size X X.drew := (Below.refl _ _).drew
    have v0 := HR5.out.next hc
    have v1 : YV X.drew K B mk d (some ⟨gb, 0, none⟩) m d' := ⟨_, _, HSA5.out.next hc, HST5.out.next hc⟩
    have v3 := HR9.out.next hc
    go_upto_region 6 with fail
    go_cut [66, 67, 68] (fun q l i wx => l = .int .i64 4 ∧ i = .int .i64 0 ∧ ∃ Q, q = .slice (some ⟨Q, 0, none⟩) 4 4 ∧ (∀ j, j < 4 → ZAt9 wx Q j) ∧ Q < wx.heap.size ∧ Below X.heap.size X wx)
    case first =>
      go_region_held3 (fun w' => w'.cell? ⟨w.heap.size, 0, none⟩ = some (.int .i64 s) ∧ w'.cell? ⟨w.heap.size, 1, none⟩ = some (.slice A nw c) ∧ w'.cell? ⟨w.heap.size, 2, none⟩ = some (.slice A' n c') ∧ w'.cell? ⟨SB, 0, none⟩ = some (.int .i64 K) ∧ w'.cell? ⟨SB, 1, none⟩ = some (.slice B mk d) ∧ w'.cell? ⟨SB, 2, none⟩ = some (.slice (some ⟨gb, 0, none⟩) m d') ∧ w'.cell? ⟨TB, 0, none⟩ = some (.int .i64 s9) ∧ w'.cell? ⟨TB, 1, none⟩ = some (.slice A9 nw9 c9) ∧ w'.cell? ⟨TB, 2, none⟩ = some (.slice A9' n9 c9'))
        (first | (with_reducible exact ⟨(hc.cell (p := ⟨_, 0, none⟩) zx).trans p0, (hc.cell (p := ⟨_, 1, none⟩) zx).trans p1, (hc.cell (p := ⟨_, 2, none⟩) zx).trans p2, (hc.cell (p := ⟨_, 0, none⟩) zy).trans q0, (hc.cell (p := ⟨_, 1, none⟩) zy).trans q1, (hc.cell (p := ⟨_, 2, none⟩) zy).trans q2, (hc.cell (p := ⟨_, 0, none⟩) zt).trans t0, (hc.cell (p := ⟨_, 1, none⟩) zt).trans t1, (hc.cell (p := ⟨_, 2, none⟩) zt).trans t2⟩) | go_keep)
        (first | (go_at_call 13; refine (spoilt_any K B (some ⟨gb, 0, none⟩) mk d m d' wd F what which by_ _ (HSA5.out.next hc) (HST5.out.next hc) (by omega) (by omega) (by omega) hmk0 d0 d1 c0 c1 e0 e1).mono ?_; rintro e wq ⟨k1, nw1, c1', g1, c1'', A1, wd1, F1, rfl, lo1, hi1, ho, ht, hb⟩; have hc := below_next hc (Nat.le_refl _) hb; have v2 : YV wq k1 A1 nw1 c1' (some ⟨g1, 0, none⟩) m c1'' := ⟨_, _, ho.arr, ht.tab⟩; have v0 := v0.next hb; have v1 := v1.next hb; have v3 := v3.next hb))
      have Z := Lib.hid (zat9_4 hc v1 v0 v3 v2 ⟨by omega, by omega⟩ ⟨by omega, by omega⟩ ⟨hnw9, hn9⟩ ⟨by omega, by omega⟩)
      clear hc v0 v1 v2 v3
      go_wp2
      go_meet
      exact ⟨rfl, rfl, _, rfl, Z.out⟩
    case rest =>
      obtain ⟨C0, rfl⟩ : ∃ C0, C0 = wc := ⟨_, rfl⟩
      obtain ⟨rfl, rfl, Q, rfl, hZA, hQ, hB⟩ := hcut
      have HZA := Lib.hid hZA
      have HCV := Lib.hid hB
      clear hZA hB hc v0 v1 v3 t0 t1 t2 zt HR9 BT p0 p1 p2 q0 q1 q2 zx HR5 BX5 hmk0 hnb
      go_wp2_with fail
      go_loopw [68] (fun i wr => ∃ j : Nat, j ≤ 4 ∧ i = .int .i64 j ∧ Below C0.heap.size C0 wr) (fun i _ => 4 - (intOf i).toNat)
      case atStart => exact ⟨0, Nat.zero_le _, rfl, Below.refl _ _⟩
      case round =>
        obtain ⟨R, rfl⟩ : ∃ R, R = wr := ⟨_, rfl⟩
        obtain ⟨j, hj, rfl, hb⟩ := hrel
        by_cases hlt : j < 4
        · obtain ⟨s, A, nw, c, A', n, c', hbw, hbn, x0, x1, x2, hv⟩ := HZA.out j hlt
          have x0' := (hb.cell (p := ⟨Q, j * 3, none⟩) hQ).trans x0
          have x1' := (hb.cell (p := ⟨Q, j * 3 + 1, none⟩) hQ).trans x1
          have x2' := (hb.cell (p := ⟨Q, j * 3 + 2, none⟩) hQ).trans x2
          have zQ : Q < R.heap.size := Nat.lt_of_lt_of_le hQ hb.size
          obtain ⟨wdx, Fx, hva, hvt⟩ := hv.next hb
          have hj2 : 0 ≤ (j : Int) ∧ (j : Int) < 4 := by omega
          obtain ⟨P0, hP0⟩ : ∃ P, P = R.alloc (.cells #[.int .i64 s, .slice A nw c, .slice A' n c'] 25) := ⟨_, rfl⟩
          have BP := Lib.hid (show Blk P0 R.heap.size 25 #[.int .i64 s, .slice A nw c, .slice A' n c'] by rw [hP0]; exact Blk.new _ _ _)
          have hbp0 : Below R.heap.size R P0 := by rw [hP0]; exact (Below.refl _ _).alloc (Nat.le_refl _) _
          have hXP0 : Below X.heap.size X P0 := below_next (below_next HCV.out (Nat.le_refl _) hb) (Nat.le_refl _) hbp0
          have HP0 := Lib.hid hP0
          have HVA := Lib.hid (hva.next hbp0)
          have HVT := Lib.hid (hvt.next hbp0)
          have HBP0 := Lib.hid (below_next hb (Nat.le_refl _) hbp0)
          have HDP0 := Lib.hid (HD.out.next (below_next HBX.out (Nat.le_refl _) hXP0))
          have BIP := BI5.out.next hXP0
          have BJP := BJ.out.next hXP0
          have u0 := BIP.cell 0
          have u1 := BIP.cell 1
          have u2 := BIP.cell 2
          have u3 := BIP.cell 3
          have u4 := BIP.cell 4
          simp at u0 u1 u2 u3 u4
          have v0 := BJP.cell 0
          have v1 := BJP.cell 1
          have v2 := BJP.cell 2
          have v3 := BJP.cell 3
          have v4 := BJP.cell 4
          simp at v0 v1 v2 v3 v4
          have zi2 : w.heap.size + 1 < P0.heap.size := BIP.lt
          have zj2 : JB < P0.heap.size := BJP.lt
          have hc : Below P0.heap.size P0 P0.drew := (Below.refl _ _).drew
          clear hP0 hva hvt hv x0 x1 x2 hbp0 hb hXP0 BIP BJP
          go_upto_region 9 with fail
          rw [← HP0.out]
          clear x0' x1' x2' zQ HP0
          go_cut [78, 79, 80] (fun q l i wx => l = .int .i64 3 ∧ i = .int .i64 0 ∧ ∃ Q, q = .slice (some ⟨Q, 0, none⟩) 3 3 ∧ (∀ j, j < 3 → IAt9 wx Q j) ∧ Q < wx.heap.size ∧ Below P0.heap.size P0 wx)
          case first =>
            go_region_held3 (fun w' => w'.cell? ⟨w.heap.size + 1, 0, none⟩ = some (.int .i64 i0) ∧ w'.cell? ⟨w.heap.size + 1, 1, none⟩ = some (.int .i64 i1) ∧ w'.cell? ⟨w.heap.size + 1, 2, none⟩ = some (.int .i64 i2) ∧ w'.cell? ⟨w.heap.size + 1, 3, none⟩ = some (.int .i64 i3) ∧ w'.cell? ⟨w.heap.size + 1, 4, none⟩ = some (.int .i64 i4) ∧ w'.cell? ⟨JB, 0, none⟩ = some (.int .i64 j0) ∧ w'.cell? ⟨JB, 1, none⟩ = some (.int .i64 j1) ∧ w'.cell? ⟨JB, 2, none⟩ = some (.int .i64 j2) ∧ w'.cell? ⟨JB, 3, none⟩ = some (.int .i64 j3) ∧ w'.cell? ⟨JB, 4, none⟩ = some (.int .i64 j4))
              (first | (with_reducible exact ⟨(hc.cell (p := ⟨_, 0, none⟩) zi2).trans u0, (hc.cell (p := ⟨_, 1, none⟩) zi2).trans u1, (hc.cell (p := ⟨_, 2, none⟩) zi2).trans u2, (hc.cell (p := ⟨_, 3, none⟩) zi2).trans u3, (hc.cell (p := ⟨_, 4, none⟩) zi2).trans u4, (hc.cell (p := ⟨_, 0, none⟩) zj2).trans v0, (hc.cell (p := ⟨_, 1, none⟩) zj2).trans v1, (hc.cell (p := ⟨_, 2, none⟩) zj2).trans v2, (hc.cell (p := ⟨_, 3, none⟩) zj2).trans v3, (hc.cell (p := ⟨_, 4, none⟩) zj2).trans v4⟩) | go_keep)
              (first | (go_at_call 14; refine (twist9_any j0 j1 j2 j3 j4 what by_ _ d0 d1 e0 e1).mono ?_; rintro e wq ⟨k0, k1, k2, k3, k4, rfl, hb⟩; have hc := below_next hc (Nat.le_refl _) hb))
            have Z := Lib.hid (iat9 (x0 := i0) (x1 := i1) (x2 := i2) (x3 := i3) (x4 := i4) (x5 := j0) (x6 := j1) (x7 := j2) (x8 := j3) (x9 := j4) (x10 := k0) (x11 := k1) (x12 := k2) (x13 := k3) (x14 := k4) hc)
            clear hc hb
            go_wp2
            go_meet
            exact ⟨rfl, rfl, _, rfl, Z.out⟩
          case rest =>
            obtain ⟨P, rfl⟩ : ∃ P, P = wc := ⟨_, rfl⟩
            obtain ⟨rfl, rfl, Q2, rfl, hRows, hQ2, hbP⟩ := hcut
            have HROW := Lib.hid hRows
            have BXP := Lib.hid (BP.out.next hbP)
            have HAP := Lib.hid (HVA.out.next hbP)
            have HTP := Lib.hid (HVT.out.next hbP)
            have HBP := Lib.hid (below_next HBP0.out (Nat.le_refl _) hbP)
            have HDP := Lib.hid (HDP0.out.next hbP)
            clear hRows hbP hc u0 u1 u2 u3 u4 v0 v1 v2 v3 v4 zi2 zj2 HVA HVT BP HBP0 HDP0
            go_wp2_with fail
            go_loopw [80] (fun i wr2 => ∃ l : Nat, l ≤ 3 ∧ i = .int .i64 l ∧ Below P.heap.size P wr2) (fun i _ => 3 - (intOf i).toNat)
            case atStart => exact ⟨0, Nat.zero_le _, rfl, Below.refl _ _⟩
            case round =>
              obtain ⟨W0, rfl⟩ : ∃ W0, W0 = wr := ⟨_, rfl⟩
              obtain ⟨l, hl, rfl, hb⟩ := hrel
              by_cases hll : l < 3
              · obtain ⟨y0, y1, y2, y3, y4, x0, x1, x2, x3, x4⟩ := HROW.out l hll
                have x0' := (hb.cell (p := ⟨Q2, l * 5, none⟩) hQ2).trans x0
                have x1' := (hb.cell (p := ⟨Q2, l * 5 + 1, none⟩) hQ2).trans x1
                have x2' := (hb.cell (p := ⟨Q2, l * 5 + 2, none⟩) hQ2).trans x2
                have x3' := (hb.cell (p := ⟨Q2, l * 5 + 3, none⟩) hQ2).trans x3
                have x4' := (hb.cell (p := ⟨Q2, l * 5 + 4, none⟩) hQ2).trans x4
                have zq2 : Q2 < W0.heap.size := Nat.lt_of_lt_of_le hQ2 hb.size
                have hl2 : 0 ≤ (l : Int) ∧ (l : Int) < 3 := by omega
                obtain ⟨W1, hW1⟩ : ∃ W, W = W0.alloc (.cells #[.int .i64 y0, .int .i64 y1, .int .i64 y2, .int .i64 y3, .int .i64 y4] 27) := ⟨_, rfl⟩
                have hbw1 : Below P.heap.size P W1 := by rw [hW1]; exact below_alloc9 hb _
                have BW := Lib.hid (show Blk W1 W0.heap.size 27 #[.int .i64 y0, .int .i64 y1, .int .i64 y2, .int .i64 y3, .int .i64 y4] by rw [hW1]; exact Blk.new _ _ _)
                have BXW := Lib.hid (BXP.out.next hbw1)
                have HA1 := Lib.hid (HAP.out.next hbw1)
                have HT1 := Lib.hid (HTP.out.next hbw1)
                have HD1 := Lib.hid (HDP.out.next hbw1)
                have K1 := Lib.hid hbw1
                have HW1 := Lib.hid hW1
                clear hW1 hbw1 hb x0 x1 x2 x3 x4
                go_upto_region 12 with fail
                rw [← HW1.out]
                clear x0' x1' x2' x3' x4' zq2 HW1
                obtain ⟨z, hz, z0, z1⟩ : ∃ z, nn % 51 = z ∧ 0 ≤ z ∧ z < 51 := ⟨_, rfl, by omega, by omega⟩
                have HZ := Lib.hid hz
                have wz : IntKind.i64.wrap (z - 1) = z - 1 := IntWalk.i64_in _ (by omega)
                clear hz
                obtain ⟨W2, hW2⟩ : ∃ W, W = W1.alloc (.cells #[.int .i64 nn, .int .i64 (z - 1)] 3) := ⟨_, rfl⟩
                have hbw2 : Below W1.heap.size W1 W2 := by rw [hW2]; exact (Below.refl _ _).alloc (Nat.le_refl _) _
                obtain ⟨NB, hNB⟩ : ∃ b, b = W1.heap.size := ⟨_, rfl⟩
                have BNB : Blk W2 NB 3 #[.int .i64 nn, .int .i64 (z - 1)] := by rw [hW2, hNB]; exact Blk.new _ _ _
                have HAT := Lib.hid (show ∀ h, h < 2 → ∃ kk : Int, W2.cell? ⟨NB, h, none⟩ = some (.int .i64 kk) from fun h hh => by
                  rcases (by omega : h = 0 ∨ h = 1) with e | e <;> subst e
                  · exact ⟨_, BNB.cell 0⟩
                  · exact ⟨_, BNB.cell 1⟩)
                have zN : NB < W2.heap.size := BNB.lt
                have BXW2 := Lib.hid (BXW.out.next hbw2)
                have BW2 := Lib.hid (BW.out.next hbw2)
                have HA2 := Lib.hid (HA1.out.next hbw2)
                have HT2 := Lib.hid (HT1.out.next hbw2)
                have HD2 := Lib.hid (HD1.out.next hbw2)
                have K2 := Lib.hid (below_next K1.out (Nat.le_refl _) hbw2)
                have HW2 := Lib.hid hW2
                have HNB := Lib.hid hNB
                clear hW2 hNB hbw2 BNB BXW BW HA1 HT1 HD1 K1
                go_upto_region 13 with (go_at_call 17; refine (mod_any nn 51 (by decide) (by decide) f0 f1 _).mono ?_; rintro e w' ⟨rfl, rfl⟩; rw [HZ.out])
                rw [← HW2.out]
                try rw [← HNB.out]
                clear HW2 HNB
                go_loopw [90] (fun i wr3 => ∃ h : Nat, h ≤ 2 ∧ i = .int .i64 h ∧ Below W2.heap.size W2 wr3) (fun i _ => 2 - (intOf i).toNat)
                case atStart => exact ⟨0, Nat.zero_le _, rfl, Below.refl _ _⟩
                case round =>
                  obtain ⟨X0, rfl⟩ : ∃ X0, X0 = wr := ⟨_, rfl⟩
                  obtain ⟨h, hh, rfl, hb⟩ := hrel
                  by_cases hhl : h < 2
                  · as_aux_lemma =>
                    obtain ⟨kk, t0⟩ := HAT.out h hhl
                    have t0' := (hb.cell (p := ⟨NB, h, none⟩) zN).trans t0
                    have zN2 : NB < X0.heap.size := Nat.lt_of_lt_of_le zN hb.size
                    have hh2 : 0 ≤ (h : Int) ∧ (h : Int) < 2 := by omega
                    have BS0 := Lib.hid (BXW2.out.next hb)
                    have BN0 := Lib.hid (BW2.out.next hb)
                    have HAX := Lib.hid (HA2.out.next hb)
                    have HTX := Lib.hid (HT2.out.next hb)
                    have HDX := Lib.hid (HD2.out.next hb)
                    have M0 := Lib.hid hb
                    obtain ⟨s', nw', n', wd', F', e0, e1, e2, e3, e4, ad, er, hnw', hn', hN⟩ := all_val s nw wdx n Fx y0 y1 y2 y3 y4 kk hbw hbn
                    have HN := Lib.hid hN
                    clear hN hb t0
                    have p0 := BS0.out.cell 0
                    have p1 := BS0.out.cell 1
                    have p2 := BS0.out.cell 2
                    simp at p0 p1 p2
                    have q0 := BN0.out.cell 0
                    have q1 := BN0.out.cell 1
                    have q2 := BN0.out.cell 2
                    have q3 := BN0.out.cell 3
                    have q4 := BN0.out.cell 4
                    simp at q0 q1 q2 q3 q4
                    have zbx : R.heap.size < X0.heap.size := BS0.out.lt
                    have zby : W0.heap.size < X0.heap.size := BN0.out.lt
                    go_wp2_with fail
                    refine ((all9_any s A A' nw c n c' wdx Fx y0 y1 y2 y3 y4 kk X0 HAX.out HTX.out HDX.out).mono (fun e w' h => HN.out _ e w' h)).mono ?_
                    rintro e X1 ⟨B1, k1, B1', k1', rfl, ho, ht, hb⟩
                    obtain ⟨X2, hX⟩ : ∃ X, X = (X1.alloc (.cells #[.int .i64 s', .slice B1 nw' k1, .slice B1' n' k1'] 25)).alloc (.cells #[.int .i64 e0, .int .i64 e1, .int .i64 e2, .int .i64 e3, .int .i64 e4] 27) := ⟨_, rfl⟩
                    have hbx : Below X0.heap.size X0 X2 := by rw [hX]; exact below_alloc9 (below_alloc9 hb _) _
                    have BSP2 := Lib.hid (show Blk X2 X1.heap.size 25 #[.int .i64 s', .slice B1 nw' k1, .slice B1' n' k1'] by rw [hX]; exact (Blk.new _ _ _).alloc _)
                    have BIN2 := Lib.hid (show Blk X2 (X1.heap.size + 1) 27 #[.int .i64 e0, .int .i64 e1, .int .i64 e2, .int .i64 e3, .int .i64 e4] by rw [hX]; exact Blk.newAt _ _ _ _ (by simp))
                    have HAA2 := Lib.hid (show Arr X2 X2.heap.size B1 nw' k1 wd' by rw [hX]; exact ((ho.alloc9 _).alloc9 _).arr)
                    have HTT2 := Lib.hid (show Tab X2 X2.heap.size B1' n' k1' F' by rw [hX]; exact ((ht.alloc9 _).alloc9 _).tab)
                    have BS2 := Lib.hid (BS0.out.next hbx)
                    have BN2 := Lib.hid (BN0.out.next hbx)
                    have M2 := Lib.hid (below_next M0.out (Nat.le_refl _) hbx)
                    have HBX2 := Lib.hid hbx
                    have HX := Lib.hid hX
                    clear hX hbx ho ht hb p0 p1 p2 q0 q1 q2 q3 q4 zbx zby
                    go_upto_region 16 with fail
                    rw [← HX.out]
                    clear HX t0' zN2
                    have p0 := BS2.out.cell 0
                    have p1 := BS2.out.cell 1
                    have p2 := BS2.out.cell 2
                    simp at p0 p1 p2
                    have q0 := BN2.out.cell 0
                    have q1 := BN2.out.cell 1
                    have q2 := BN2.out.cell 2
                    have q3 := BN2.out.cell 3
                    have q4 := BN2.out.cell 4
                    simp at q0 q1 q2 q3 q4
                    have zbx : R.heap.size < X2.heap.size := BS2.out.lt
                    have zby : W0.heap.size < X2.heap.size := BN2.out.lt
                    go_wp2_with fail
                    refine ((refAll9_any s A A' nw c n c' wdx Fx y0 y1 y2 y3 y4 kk X2 (HAX.out.next HBX2.out) (HTX.out.next HBX2.out)).mono (fun e w' h => HN.out _ e w' h)).mono ?_
                    rintro e X3 ⟨B3, k3, B3', k3', rfl, ho, ht, hb⟩
                    obtain ⟨X4, hX⟩ : ∃ X, X = (X3.alloc (.cells #[.int .i64 s', .slice B3 nw' k3, .slice B3' n' k3'] 25)).alloc (.cells #[.int .i64 e0, .int .i64 e1, .int .i64 e2, .int .i64 e3, .int .i64 e4] 27) := ⟨_, rfl⟩
                    have hbx : Below X2.heap.size X2 X4 := by rw [hX]; exact below_alloc9 (below_alloc9 hb _) _
                    have BSP4 := Lib.hid (show Blk X4 X3.heap.size 25 #[.int .i64 s', .slice B3 nw' k3, .slice B3' n' k3'] by rw [hX]; exact (Blk.new _ _ _).alloc _)
                    have BIN4 := Lib.hid (show Blk X4 (X3.heap.size + 1) 27 #[.int .i64 e0, .int .i64 e1, .int .i64 e2, .int .i64 e3, .int .i64 e4] by rw [hX]; exact Blk.newAt _ _ _ _ (by simp))
                    have HAA4 := Lib.hid (show Arr X4 X4.heap.size B3 nw' k3 wd' by rw [hX]; exact ((ho.alloc9 _).alloc9 _).arr)
                    have HTT4 := Lib.hid (show Tab X4 X4.heap.size B3' n' k3' F' by rw [hX]; exact ((ht.alloc9 _).alloc9 _).tab)
                    have BS4 := Lib.hid (BS2.out.next hbx)
                    have BN4 := Lib.hid (BN2.out.next hbx)
                    have M4 := Lib.hid (below_next M2.out (Nat.le_refl _) hbx)
                    have HBX4 := Lib.hid hbx
                    have HX := Lib.hid hX
                    clear hX hbx ho ht hb p0 p1 p2 q0 q1 q2 q3 q4 zbx zby
                    go_upto_region 17 with fail
                    rw [← HX.out]
                    clear HX
                    have BSP5 := BSP2.out.next HBX4.out
                    have BIN5 := BIN2.out.next HBX4.out
                    have p0 := BSP5.cell 0
                    have p1 := BSP5.cell 1
                    have p2 := BSP5.cell 2
                    simp at p0 p1 p2
                    have q0 := BIN5.cell 0
                    have q1 := BIN5.cell 1
                    have q2 := BIN5.cell 2
                    have q3 := BIN5.cell 3
                    have q4 := BIN5.cell 4
                    simp at q0 q1 q2 q3 q4
                    have u0 := BSP4.out.cell 0
                    have u1 := BSP4.out.cell 1
                    have u2 := BSP4.out.cell 2
                    simp at u0 u1 u2
                    have v0 := BIN4.out.cell 0
                    have v1 := BIN4.out.cell 1
                    have v2 := BIN4.out.cell 2
                    have v3 := BIN4.out.cell 3
                    have v4 := BIN4.out.cell 4
                    simp at v0 v1 v2 v3 v4
                    have zp : X1.heap.size < X4.heap.size := BSP5.lt
                    have zq : X1.heap.size + 1 < X4.heap.size := BIN5.lt
                    have zu : X3.heap.size < X4.heap.size := BSP4.out.lt
                    have zv : X3.heap.size + 1 < X4.heap.size := BIN4.out.lt
                    clear BSP5 BIN5
                    go_wp2_with (go_at_call 25; refine (sameSp_yes s' B1 B1' B3 B3' nw' k1 k3 n' k1' k3' wd' F' X4 (HAA2.out.next HBX4.out) HAA4.out (HTT2.out.next HBX4.out) HTT4.out hnw' hn').mono ?_; rintro e X5 ⟨rfl, hb5⟩)
                    exact ⟨⟨h + 1, by omega, by go_num, below_next M4.out (Nat.le_refl _) hb5⟩, by simp [intOf]; omega⟩
                  · obtain rfl : h = 2 := by omega
                    have BS0 := Lib.hid (BXW2.out.next hb)
                    have BN0 := Lib.hid (BW2.out.next hb)
                    have HAX := Lib.hid (HA2.out.next hb)
                    have HTX := Lib.hid (HT2.out.next hb)
                    have HDX := Lib.hid (HD2.out.next hb)
                    have M0 := Lib.hid (below_next K2.out (Nat.le_refl _) hb)
                    obtain ⟨s', nw', n', wd', F', er, hnw', hn', hN⟩ := drop_val s nw wdx n Fx y0 y1 y2 y3 y4 hbw hbn
                    have HN := Lib.hid hN
                    clear hN hb
                    have p0 := BS0.out.cell 0
                    have p1 := BS0.out.cell 1
                    have p2 := BS0.out.cell 2
                    simp at p0 p1 p2
                    have q0 := BN0.out.cell 0
                    have q1 := BN0.out.cell 1
                    have q2 := BN0.out.cell 2
                    have q3 := BN0.out.cell 3
                    have q4 := BN0.out.cell 4
                    simp at q0 q1 q2 q3 q4
                    have zbx : R.heap.size < X0.heap.size := BS0.out.lt
                    have zby : W0.heap.size < X0.heap.size := BN0.out.lt
                    go_wp2_with fail
                    refine ((drop9_any s A A' nw c n c' wdx Fx y0 y1 y2 y3 y4 X0 HAX.out HTX.out HDX.out).mono (fun e w' h => HN.out _ e w' h)).mono ?_
                    rintro e X1 ⟨B1, k1, B1', k1', rfl, ho, ht, hb⟩
                    obtain ⟨X2, hX⟩ : ∃ X, X = X1.alloc (.cells #[.int .i64 s', .slice B1 nw' k1, .slice B1' n' k1'] 25) := ⟨_, rfl⟩
                    have hbx : Below X0.heap.size X0 X2 := by rw [hX]; exact below_alloc9 hb _
                    have BSP2 := Lib.hid (show Blk X2 X1.heap.size 25 #[.int .i64 s', .slice B1 nw' k1, .slice B1' n' k1'] by rw [hX]; exact Blk.new _ _ _)
                    have HAA2 := Lib.hid (show Arr X2 X2.heap.size B1 nw' k1 wd' by rw [hX]; exact (ho.alloc9 _).arr)
                    have HTT2 := Lib.hid (show Tab X2 X2.heap.size B1' n' k1' F' by rw [hX]; exact (ht.alloc9 _).tab)
                    have BS2 := Lib.hid (BS0.out.next hbx)
                    have BN2 := Lib.hid (BN0.out.next hbx)
                    have M2 := Lib.hid (below_next M0.out (Nat.le_refl _) hbx)
                    have HBX2 := Lib.hid hbx
                    have HX := Lib.hid hX
                    clear hX hbx ho ht hb p0 p1 p2 q0 q1 q2 q3 q4 zbx zby
                    go_upto_region 21 with fail
                    rw [← HX.out]
                    clear HX
                    have p0 := BS2.out.cell 0
                    have p1 := BS2.out.cell 1
                    have p2 := BS2.out.cell 2
                    simp at p0 p1 p2
                    have q0 := BN2.out.cell 0
                    have q1 := BN2.out.cell 1
                    have q2 := BN2.out.cell 2
                    have q3 := BN2.out.cell 3
                    have q4 := BN2.out.cell 4
                    simp at q0 q1 q2 q3 q4
                    have zbx : R.heap.size < X2.heap.size := BS2.out.lt
                    have zby : W0.heap.size < X2.heap.size := BN2.out.lt
                    go_wp2_with fail
                    refine ((refDrop9_any s A A' nw c n c' wdx Fx y0 y1 y2 y3 y4 X2 (HAX.out.next HBX2.out) (HTX.out.next HBX2.out)).mono (fun e w' h => HN.out _ e w' h)).mono ?_
                    rintro e X3 ⟨B3, k3, B3', k3', rfl, ho, ht, hb⟩
                    obtain ⟨X4, hX⟩ : ∃ X, X = X3.alloc (.cells #[.int .i64 s', .slice B3 nw' k3, .slice B3' n' k3'] 25) := ⟨_, rfl⟩
                    have hbx : Below X2.heap.size X2 X4 := by rw [hX]; exact below_alloc9 hb _
                    have BSP4 := Lib.hid (show Blk X4 X3.heap.size 25 #[.int .i64 s', .slice B3 nw' k3, .slice B3' n' k3'] by rw [hX]; exact Blk.new _ _ _)
                    have HAA4 := Lib.hid (show Arr X4 X4.heap.size B3 nw' k3 wd' by rw [hX]; exact (ho.alloc9 _).arr)
                    have HTT4 := Lib.hid (show Tab X4 X4.heap.size B3' n' k3' F' by rw [hX]; exact (ht.alloc9 _).tab)
                    have BS4 := Lib.hid (BS2.out.next hbx)
                    have BN4 := Lib.hid (BN2.out.next hbx)
                    have M4 := Lib.hid (below_next M2.out (Nat.le_refl _) hbx)
                    have HBX4 := Lib.hid hbx
                    have HX := Lib.hid hX
                    clear hX hbx ho ht hb p0 p1 p2 q0 q1 q2 q3 q4 zbx zby
                    go_upto_region 22 with fail
                    rw [← HX.out]
                    clear HX
                    have BSP5 := BSP2.out.next HBX4.out
                    have p0 := BSP5.cell 0
                    have p1 := BSP5.cell 1
                    have p2 := BSP5.cell 2
                    simp at p0 p1 p2
                    have u0 := BSP4.out.cell 0
                    have u1 := BSP4.out.cell 1
                    have u2 := BSP4.out.cell 2
                    simp at u0 u1 u2
                    have zp : X1.heap.size < X4.heap.size := BSP5.lt
                    have zu : X3.heap.size < X4.heap.size := BSP4.out.lt
                    clear BSP5
                    go_wp2_with (go_at_call 25; refine (sameSp_yes s' B1 B1' B3 B3' nw' k1 k3 n' k1' k3' wd' F' X4 (HAA2.out.next HBX4.out) HAA4.out (HTT2.out.next HBX4.out) HTT4.out hnw' hn').mono ?_; rintro e X5 ⟨rfl, hb5⟩)
                    exact ⟨⟨l + 1, by omega, by go_num, below_next M4.out (Nat.le_refl _) hb5⟩, by simp [intOf]; omega⟩
              · obtain rfl : l = 3 := by omega
                have K0 := Lib.hid (below_next HBP.out (Nat.le_refl _) hb)
                clear hb
                go_wp2_with fail
                exact ⟨⟨j + 1, by omega, by go_num, K0.out⟩, by simp [intOf]; omega⟩
        · obtain rfl : j = 4 := by omega
          have HB8 := Lib.hid (below_next HCV.out (Nat.le_refl _) hb)
          clear hb
          have HDR := Lib.hid (HD.out.next (below_next HBX.out (Nat.le_refl _) HB8.out))
          have K9 := Lib.hid (below_next HBX.out (Nat.le_refl _) HB8.out)
          go_wp2_with (go_at_call 9; refine (awake9_any _ HDR.out).mono ?_; rintro e w9 ⟨rfl, hb9⟩)
          go_ret
          exact ⟨rfl, below_next K9.out (Nat.le_refl _) hb9⟩
end Go.Proofs.YthlkodhkhkdggaaDoor
