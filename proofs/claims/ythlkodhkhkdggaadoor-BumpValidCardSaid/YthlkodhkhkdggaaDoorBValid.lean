/-
  The walk of BumpValid. (Made by mklaw-s9.py.)
-/
import Derived.Test.YthlkodhkhkdggaaDoorRow9
import Derived.Deep.RegionHeld3
import Derived.Deep.DeepCutAuto
import Derived.Deep.CutBlock
namespace Go.Proofs.YthlkodhkhkdggaaDoor
open Go.RowKit
set_option maxRecDepth 100000
set_option linter.unusedVariables false

set_option maxHeartbeats 40000000 in
theorem walkBValid (s : Int) (A A' : Option Addr) (nw c n c' : Nat) (wd0 : Nat → Int) (F0' : Nat → Fr) (i0 i1 i2 i3 i4 : Int) (Al : Option Addr) (nl cl : Nat) (which what by_ nn : Int) (w : World) (hA : Arr w w.heap.size A nw c wd0) (hT : Tab w w.heap.size A' n c' F0') (hL : ListP w w.heap.size Al nl cl) (hD : Db w)
    (c0 : -9223372036854775808 ≤ which) (c1 : which ≤ 9223372036854775807) (d0 : -9223372036854775808 ≤ what) (d1 : what ≤ 9223372036854775807) (e0 : -9223372036854775808 ≤ by_) (e1 : by_ ≤ 9223372036854775807) (f0 : -9223372036854775808 ≤ nn) (f1 : nn ≤ 9223372036854775807) :
    Calls Tryd.prog 3 #[.agg #[.int .i64 s, .slice A nw c, .slice A' n c'], .agg #[.int .i64 i0, .int .i64 i1, .int .i64 i2, .int .i64 i3, .int .i64 i4], .slice Al nl cl, .int .i64 which, .int .i64 what, .int .i64 by_, .int .i64 nn] w fun e w' => e = .returned (.bool true) ∧ Below w.heap.size w w' := by
  obtain ⟨U, hU⟩ : ∃ U, U = (w.alloc (.cells #[.int .i64 s, .slice A nw c, .slice A' n c'] 25)).alloc (.cells #[.int .i64 i0, .int .i64 i1, .int .i64 i2, .int .i64 i3, .int .i64 i4] 27) := ⟨_, rfl⟩
  have BX := Lib.hid (show Blk U w.heap.size 25 #[.int .i64 s, .slice A nw c, .slice A' n c'] by rw [hU]; exact (Blk.new _ _ _).alloc _)
  have BI := Lib.hid (show Blk U (w.heap.size + 1) 27 #[.int .i64 i0, .int .i64 i1, .int .i64 i2, .int .i64 i3, .int .i64 i4] by rw [hU]; exact Blk.newAt _ _ _ _ (by simp))
  have hbu : Below w.heap.size w U := by rw [hU]; exact ((Below.refl _ _).alloc (Nat.le_refl _) _).alloc (by simp) _
  have HBU := Lib.hid hbu
  have HU := Lib.hid hU
  have HL := Lib.hid (hL.next hbu)
  have HA0 := Lib.hid hA
  have HT0 := Lib.hid hT
  have HD := Lib.hid hD
  have p0 := BX.out.cell 0
  have p1 := BX.out.cell 1
  have p2 := BX.out.cell 2
  simp at p0 p1 p2
  clear hL hU hbu hA hT hD
  go_enter Tryd.func3, Tryd.ntmps3
  go_wp2_with fail
  rw [← HU.out]
  refine (small_any s A A' nw c n c' U).mono ?_
  rintro e U1 ⟨rfl, hb⟩
  have BX1 := Lib.hid (BX.out.next hb)
  have BI1 := Lib.hid (BI.out.next hb)
  have HBU1 := Lib.hid (below_next HBU.out (Nat.le_refl _) hb)
  have HL1 := Lib.hid (HL.out.next hb)
  clear hb BX BI HBU HL HU p0 p1 p2
  obtain ⟨sm, hsm, hn⟩ : ∃ b, (decide (nw ≤ 3000) && decide (n ≤ 80)) = b ∧ (b = true → nw ≤ 3000 ∧ n ≤ 80) := ⟨_, rfl, by simp⟩
  rw [hsm]
  clear hsm
  rcases sm with _ | _
  · go_wp2_with (go_at_call 9; refine (awake9_any _ (HD.out.next HBU1.out)).mono ?_; rintro e w6 ⟨rfl, b6⟩; have HB6 := Lib.hid b6; clear b6)
    go_ret
    exact ⟨rfl, below_next HBU1.out (Nat.le_refl _) HB6.out⟩
  · have hnb := hn rfl
    clear hn
    go_wp2_with fail
    refine (deck_any Al nl cl U1 HL1.out).mono ?_
    rintro e U2 ⟨rfl, hd, hb, hz⟩
    have HDK := Lib.hid hd
    have BX2 := Lib.hid (BX1.out.next hb)
    have BI2 := Lib.hid (BI1.out.next hb)
    have HBU2 := Lib.hid (below_next HBU1.out (Nat.le_refl _) hb)
    have zz := BI1.out.lt
    clear hd hb BX1 BI1 HBU1 HL1
    go_wp2_with fail
    refine (space_any U1.heap.size U2 HDK.out).mono ?_
    rintro e U3 ⟨K, m, B, d, gb, d', wd, F, L, rfl, kk0, kk1, m0, m1, hoA, hoT, ⟨hvp, how, hu⟩, ⟨_, I, BI', hBI, hLR, hAll⟩, hG⟩
    have BX3 := Lib.hid (BX2.out.turn hG (by omega))
    have BI3 := Lib.hid (BI2.out.turn hG (by omega))
    have HBU3 := Lib.hid (below_turn HBU2.out hG (by omega))
    have HVP := Lib.hid hvp
    have hmk0 : 0 < m * 2 ^ K := Nat.mul_pos (by omega) (Nat.two_pow_pos K)
    have hmk1 : m * 2 ^ K ≤ 16384 := prod_le (by omega) (by omega)
    obtain ⟨mk, hmk⟩ : ∃ mk, mk = m * 2 ^ K := ⟨_, rfl⟩
    rw [← hmk] at hoA HVP hmk0 hmk1 ⊢
    obtain ⟨V, hV⟩ : ∃ V, V = U3.alloc (.cells #[.int .i64 K, .slice B mk d, .slice (some ⟨gb, 0, none⟩) m d'] 25) := ⟨_, rfl⟩
    have hbv : Below U3.heap.size U3 V := by rw [hV]; exact (Below.refl _ _).alloc (Nat.le_refl _) _
    obtain ⟨SB, hSB⟩ : ∃ b, b = U3.heap.size := ⟨_, rfl⟩
    have BY := Lib.hid (show Blk V SB 25 #[.int .i64 K, .slice B mk d, .slice (some ⟨gb, 0, none⟩) m d'] by rw [hV, hSB]; exact Blk.new _ _ _)
    have BX4 := Lib.hid (BX3.out.next hbv)
    have BI4 := Lib.hid (BI3.out.next hbv)
    have HBV := Lib.hid (below_next HBU3.out (Nat.le_refl _) hbv)
    have HR4 := Lib.hid (show YV V s A nw c A' n c' from ⟨wd0, F0', (HA0.out.below HBV.out).more HBV.out.size, (HT0.out.below HBV.out).more HBV.out.size⟩)
    have HSA := Lib.hid (hoA.arr.next hbv)
    have HST := Lib.hid (hoT.tab.next hbv)
    have HLV := Lib.hid (hLR.below hbv)
    have hI17 := allP_len hAll
    have HVV := Lib.hid hV
    have HSB := Lib.hid hSB
    clear hV hSB hbv BX3 BI3 HBU3 HA0 HT0 hG BX2 BI2 HBU2 HDK hz hoA hoT hmk hvp how hu hLR hAll hBI
    go_wp2_with fail
    rw [← HVV.out]
    try rw [← HSB.out]
    clear HVV HSB
    refine (pick9_any L I BI' _ which V HLV.out hI17 c0 c1).mono ?_
    rintro e V1 ⟨j0, j1, j2, j3, j4, rfl, hb⟩
    obtain ⟨X, hX⟩ : ∃ X, X = V1.alloc (.cells #[.int .i64 j0, .int .i64 j1, .int .i64 j2, .int .i64 j3, .int .i64 j4] 27) := ⟨_, rfl⟩
    have hbx : Below V.heap.size V X := by rw [hX]; exact below_alloc9 hb _
    obtain ⟨JB, hJB⟩ : ∃ b, b = V1.heap.size := ⟨_, rfl⟩
    have BJ := Lib.hid (show Blk X JB 27 #[.int .i64 j0, .int .i64 j1, .int .i64 j2, .int .i64 j3, .int .i64 j4] by rw [hX, hJB]; exact Blk.new _ _ _)
    have BX5 := Lib.hid (BX4.out.next hbx)
    have BI5 := Lib.hid (BI4.out.next hbx)
    have BY5 := Lib.hid (BY.out.next hbx)
    have HBX := Lib.hid (below_next HBV.out (Nat.le_refl _) hbx)
    have HR5 := Lib.hid (HR4.out.next hbx)
    have HSA5 := Lib.hid (HSA.out.next hbx)
    have HST5 := Lib.hid (HST.out.next hbx)
    have HXX := Lib.hid hX
    have HJB := Lib.hid hJB
    clear hX hJB hbx hb BX4 BI4 BY HBV HR4 HSA HST HLV hI17
    go_wp2_with fail
    rw [← HXX.out]
    try rw [← HJB.out]
    clear HXX HJB
    have p0 := BX5.out.cell 0
    have p1 := BX5.out.cell 1
    have p2 := BX5.out.cell 2
    simp at p0 p1 p2
    have q0 := BY5.out.cell 0
    have q1 := BY5.out.cell 1
    have q2 := BY5.out.cell 2
    simp at q0 q1 q2
    have zx : w.heap.size < X.heap.size := BX5.out.lt
    have zi : w.heap.size + 1 < X.heap.size := BI5.out.lt
    have zy : SB < X.heap.size := BY5.out.lt
    have zj : JB < X.heap.size := BJ.out.lt
    have hc : Below X.heap.size X X.drew := (Below.refl _ _).drew
    have v0 := HR5.out.next hc
    have v1 : YV X.drew K B mk d (some ⟨gb, 0, none⟩) m d' := ⟨_, _, HSA5.out.next hc, HST5.out.next hc⟩
    go_upto_region 5 with fail
    go_cut [43, 44, 45] (fun q l i wx => l = .int .i64 3 ∧ i = .int .i64 0 ∧ ∃ Q, q = .slice (some ⟨Q, 0, none⟩) 3 3 ∧ (∀ j, j < 3 → ZAt9 wx Q j) ∧ Q < wx.heap.size ∧ Below X.heap.size X wx)
    case first =>
      go_region_held3 (fun w' => w'.cell? ⟨w.heap.size, 0, none⟩ = some (.int .i64 s) ∧ w'.cell? ⟨w.heap.size, 1, none⟩ = some (.slice A nw c) ∧ w'.cell? ⟨w.heap.size, 2, none⟩ = some (.slice A' n c') ∧ w'.cell? ⟨SB, 0, none⟩ = some (.int .i64 K) ∧ w'.cell? ⟨SB, 1, none⟩ = some (.slice B mk d) ∧ w'.cell? ⟨SB, 2, none⟩ = some (.slice (some ⟨gb, 0, none⟩) m d'))
        (first | (with_reducible exact ⟨(hc.cell (p := ⟨_, 0, none⟩) zx).trans p0, (hc.cell (p := ⟨_, 1, none⟩) zx).trans p1, (hc.cell (p := ⟨_, 2, none⟩) zx).trans p2, (hc.cell (p := ⟨_, 0, none⟩) zy).trans q0, (hc.cell (p := ⟨_, 1, none⟩) zy).trans q1, (hc.cell (p := ⟨_, 2, none⟩) zy).trans q2⟩) | go_keep)
        (first | (go_at_call 13; refine (spoilt_any K B (some ⟨gb, 0, none⟩) mk d m d' wd F what which by_ _ (HSA5.out.next hc) (HST5.out.next hc) (by omega) (by omega) (by omega) hmk0 d0 d1 c0 c1 e0 e1).mono ?_; rintro e wq ⟨k1, nw1, c1', g1, c1'', A1, wd1, F1, rfl, lo1, hi1, ho, ht, hb⟩; have hc := below_next hc (Nat.le_refl _) hb; have v2 : YV wq k1 A1 nw1 c1' (some ⟨g1, 0, none⟩) m c1'' := ⟨_, _, ho.arr, ht.tab⟩; have v0 := v0.next hb; have v1 := v1.next hb))
      have Z := Lib.hid (zat9_3 hc v1 v0 v2 ⟨by omega, by omega⟩ ⟨by omega, by omega⟩ ⟨by omega, by omega⟩)
      clear hc v0 v1 v2
      go_wp2
      go_meet
      exact ⟨rfl, rfl, _, rfl, Z.out⟩
    case rest =>
      obtain ⟨C0, rfl⟩ : ∃ C0, C0 = wc := ⟨_, rfl⟩
      obtain ⟨rfl, rfl, Q, rfl, hZA, hQ, hB⟩ := hcut
      have HZA := Lib.hid hZA
      have HCV := Lib.hid hB
      clear hZA hB hc v0 v1 p0 p1 p2 q0 q1 q2 zx HR5 BX5 hmk0 hnb
      go_wp2_with fail
      go_loopw [45] (fun i wr => ∃ j : Nat, j ≤ 3 ∧ i = .int .i64 j ∧ Below C0.heap.size C0 wr) (fun i _ => 3 - (intOf i).toNat)
      case atStart => exact ⟨0, Nat.zero_le _, rfl, Below.refl _ _⟩
      case round =>
        obtain ⟨R, rfl⟩ : ∃ R, R = wr := ⟨_, rfl⟩
        obtain ⟨j, hj, rfl, hb⟩ := hrel
        by_cases hlt : j < 3
        · obtain ⟨s, A, nw, c, A', n, c', hbw, hbn, x0, x1, x2, hv⟩ := HZA.out j hlt
          have x0' := (hb.cell (p := ⟨Q, j * 3, none⟩) hQ).trans x0
          have x1' := (hb.cell (p := ⟨Q, j * 3 + 1, none⟩) hQ).trans x1
          have x2' := (hb.cell (p := ⟨Q, j * 3 + 2, none⟩) hQ).trans x2
          have zQ : Q < R.heap.size := Nat.lt_of_lt_of_le hQ hb.size
          obtain ⟨wdx, Fx, hva, hvt⟩ := hv.next hb
          have hj2 : 0 ≤ (j : Int) ∧ (j : Int) < 3 := by omega
          obtain ⟨P0, hP0⟩ : ∃ P, P = R.alloc (.cells #[.int .i64 s, .slice A nw c, .slice A' n c'] 25) := ⟨_, rfl⟩
          have BP := Lib.hid (show Blk P0 R.heap.size 25 #[.int .i64 s, .slice A nw c, .slice A' n c'] by rw [hP0]; exact Blk.new _ _ _)
          have hbp0 : Below R.heap.size R P0 := by rw [hP0]; exact (Below.refl _ _).alloc (Nat.le_refl _) _
          have hXP0 : Below X.heap.size X P0 := below_next (below_next HCV.out (Nat.le_refl _) hb) (Nat.le_refl _) hbp0
          have HP0 := Lib.hid hP0
          have HVA := Lib.hid (hva.next hbp0)
          have HVT := Lib.hid (hvt.next hbp0)
          have HBP0 := Lib.hid (below_next hb (Nat.le_refl _) hbp0)
          have HDP0 := Lib.hid (HD.out.next (below_next HBX.out (Nat.le_refl _) hXP0))
          have BIP := BI5.out.next hXP0
          have BJP := BJ.out.next hXP0
          have u0 := BIP.cell 0
          have u1 := BIP.cell 1
          have u2 := BIP.cell 2
          have u3 := BIP.cell 3
          have u4 := BIP.cell 4
          simp at u0 u1 u2 u3 u4
          have v0 := BJP.cell 0
          have v1 := BJP.cell 1
          have v2 := BJP.cell 2
          have v3 := BJP.cell 3
          have v4 := BJP.cell 4
          simp at v0 v1 v2 v3 v4
          have zi2 : w.heap.size + 1 < P0.heap.size := BIP.lt
          have zj2 : JB < P0.heap.size := BJP.lt
          have hc : Below P0.heap.size P0 P0.drew := (Below.refl _ _).drew
          clear hP0 hva hvt hv x0 x1 x2 hbp0 hb hXP0 BIP BJP
          go_upto_region 8 with fail
          rw [← HP0.out]
          clear x0' x1' x2' zQ HP0
          go_cut [55, 56, 57] (fun q l i wx => l = .int .i64 3 ∧ i = .int .i64 0 ∧ ∃ Q, q = .slice (some ⟨Q, 0, none⟩) 3 3 ∧ (∀ j, j < 3 → IAt9 wx Q j) ∧ Q < wx.heap.size ∧ Below P0.heap.size P0 wx)
          case first =>
            go_region_held3 (fun w' => w'.cell? ⟨w.heap.size + 1, 0, none⟩ = some (.int .i64 i0) ∧ w'.cell? ⟨w.heap.size + 1, 1, none⟩ = some (.int .i64 i1) ∧ w'.cell? ⟨w.heap.size + 1, 2, none⟩ = some (.int .i64 i2) ∧ w'.cell? ⟨w.heap.size + 1, 3, none⟩ = some (.int .i64 i3) ∧ w'.cell? ⟨w.heap.size + 1, 4, none⟩ = some (.int .i64 i4) ∧ w'.cell? ⟨JB, 0, none⟩ = some (.int .i64 j0) ∧ w'.cell? ⟨JB, 1, none⟩ = some (.int .i64 j1) ∧ w'.cell? ⟨JB, 2, none⟩ = some (.int .i64 j2) ∧ w'.cell? ⟨JB, 3, none⟩ = some (.int .i64 j3) ∧ w'.cell? ⟨JB, 4, none⟩ = some (.int .i64 j4))
              (first | (with_reducible exact ⟨(hc.cell (p := ⟨_, 0, none⟩) zi2).trans u0, (hc.cell (p := ⟨_, 1, none⟩) zi2).trans u1, (hc.cell (p := ⟨_, 2, none⟩) zi2).trans u2, (hc.cell (p := ⟨_, 3, none⟩) zi2).trans u3, (hc.cell (p := ⟨_, 4, none⟩) zi2).trans u4, (hc.cell (p := ⟨_, 0, none⟩) zj2).trans v0, (hc.cell (p := ⟨_, 1, none⟩) zj2).trans v1, (hc.cell (p := ⟨_, 2, none⟩) zj2).trans v2, (hc.cell (p := ⟨_, 3, none⟩) zj2).trans v3, (hc.cell (p := ⟨_, 4, none⟩) zj2).trans v4⟩) | go_keep)
              (first | (go_at_call 14; refine (twist9_any j0 j1 j2 j3 j4 what by_ _ d0 d1 e0 e1).mono ?_; rintro e wq ⟨k0, k1, k2, k3, k4, rfl, hb⟩; have hc := below_next hc (Nat.le_refl _) hb))
            have Z := Lib.hid (iat9 (x0 := i0) (x1 := i1) (x2 := i2) (x3 := i3) (x4 := i4) (x5 := j0) (x6 := j1) (x7 := j2) (x8 := j3) (x9 := j4) (x10 := k0) (x11 := k1) (x12 := k2) (x13 := k3) (x14 := k4) hc)
            clear hc hb
            go_wp2
            go_meet
            exact ⟨rfl, rfl, _, rfl, Z.out⟩
          case rest =>
            obtain ⟨P, rfl⟩ : ∃ P, P = wc := ⟨_, rfl⟩
            obtain ⟨rfl, rfl, Q2, rfl, hRows, hQ2, hbP⟩ := hcut
            have HROW := Lib.hid hRows
            have BXP := Lib.hid (BP.out.next hbP)
            have HAP := Lib.hid (HVA.out.next hbP)
            have HTP := Lib.hid (HVT.out.next hbP)
            have HBP := Lib.hid (below_next HBP0.out (Nat.le_refl _) hbP)
            have HDP := Lib.hid (HDP0.out.next hbP)
            clear hRows hbP hc u0 u1 u2 u3 u4 v0 v1 v2 v3 v4 zi2 zj2 HVA HVT BP HBP0 HDP0
            go_wp2_with fail
            go_loopw [57] (fun i wr2 => ∃ l : Nat, l ≤ 3 ∧ i = .int .i64 l ∧ Below P.heap.size P wr2) (fun i _ => 3 - (intOf i).toNat)
            case atStart => exact ⟨0, Nat.zero_le _, rfl, Below.refl _ _⟩
            case round =>
              obtain ⟨W0, rfl⟩ : ∃ W0, W0 = wr := ⟨_, rfl⟩
              obtain ⟨l, hl, rfl, hb⟩ := hrel
              by_cases hll : l < 3
              · obtain ⟨y0, y1, y2, y3, y4, x0, x1, x2, x3, x4⟩ := HROW.out l hll
                have x0' := (hb.cell (p := ⟨Q2, l * 5, none⟩) hQ2).trans x0
                have x1' := (hb.cell (p := ⟨Q2, l * 5 + 1, none⟩) hQ2).trans x1
                have x2' := (hb.cell (p := ⟨Q2, l * 5 + 2, none⟩) hQ2).trans x2
                have x3' := (hb.cell (p := ⟨Q2, l * 5 + 3, none⟩) hQ2).trans x3
                have x4' := (hb.cell (p := ⟨Q2, l * 5 + 4, none⟩) hQ2).trans x4
                have zq2 : Q2 < W0.heap.size := Nat.lt_of_lt_of_le hQ2 hb.size
                have hl2 : 0 ≤ (l : Int) ∧ (l : Int) < 3 := by omega
                obtain ⟨W1, hW1⟩ : ∃ W, W = W0.alloc (.cells #[.int .i64 y0, .int .i64 y1, .int .i64 y2, .int .i64 y3, .int .i64 y4] 27) := ⟨_, rfl⟩
                have hbw1 : Below P.heap.size P W1 := by rw [hW1]; exact below_alloc9 hb _
                have BW := Lib.hid (show Blk W1 W0.heap.size 27 #[.int .i64 y0, .int .i64 y1, .int .i64 y2, .int .i64 y3, .int .i64 y4] by rw [hW1]; exact Blk.new _ _ _)
                have BXW := Lib.hid (BXP.out.next hbw1)
                have HA1 := Lib.hid (HAP.out.next hbw1)
                have HT1 := Lib.hid (HTP.out.next hbw1)
                have HD1 := Lib.hid (HDP.out.next hbw1)
                have K1 := Lib.hid hbw1
                have HW1 := Lib.hid hW1
                clear hW1 hbw1 hb x0 x1 x2 x3 x4
                go_upto_region 11 with fail
                rw [← HW1.out]
                clear x0' x1' x2' x3' x4' zq2 HW1
                have p0 := BXW.out.cell 0
                have p1 := BXW.out.cell 1
                have p2 := BXW.out.cell 2
                simp at p0 p1 p2
                have q0 := BW.out.cell 0
                have q1 := BW.out.cell 1
                have q2 := BW.out.cell 2
                have q3 := BW.out.cell 3
                have q4 := BW.out.cell 4
                simp at q0 q1 q2 q3 q4
                have zbx : R.heap.size < W1.heap.size := BXW.out.lt
                have zby : W0.heap.size < W1.heap.size := BW.out.lt
                have hc : Below W1.heap.size W1 W1.drew := (Below.refl _ _).drew
                obtain ⟨iv, hiv⟩ : ∃ z, z = incB s nw wdx n Fx y0 y1 y2 y3 y4 := ⟨_, rfl⟩
                have HIV := Lib.hid hiv
                clear hiv
                go_region_held3 (fun w' => w'.cell? ⟨R.heap.size, 0, none⟩ = some (.int .i64 s) ∧ w'.cell? ⟨R.heap.size, 1, none⟩ = some (.slice A nw c) ∧ w'.cell? ⟨R.heap.size, 2, none⟩ = some (.slice A' n c') ∧ w'.cell? ⟨W0.heap.size, 0, none⟩ = some (.int .i64 y0) ∧ w'.cell? ⟨W0.heap.size, 1, none⟩ = some (.int .i64 y1) ∧ w'.cell? ⟨W0.heap.size, 2, none⟩ = some (.int .i64 y2) ∧ w'.cell? ⟨W0.heap.size, 3, none⟩ = some (.int .i64 y3) ∧ w'.cell? ⟨W0.heap.size, 4, none⟩ = some (.int .i64 y4))
                  (first | (with_reducible exact ⟨(hc.cell (p := ⟨_, 0, none⟩) zbx).trans p0, (hc.cell (p := ⟨_, 1, none⟩) zbx).trans p1, (hc.cell (p := ⟨_, 2, none⟩) zbx).trans p2, (hc.cell (p := ⟨_, 0, none⟩) zby).trans q0, (hc.cell (p := ⟨_, 1, none⟩) zby).trans q1, (hc.cell (p := ⟨_, 2, none⟩) zby).trans q2, (hc.cell (p := ⟨_, 3, none⟩) zby).trans q3, (hc.cell (p := ⟨_, 4, none⟩) zby).trans q4⟩) | go_keep)
                  (first
                    | (go_at_call 15; refine (inc9_any s A A' nw c n c' wdx Fx y0 y1 y2 y3 y4 _ (HA1.out.next hc) (HT1.out.next hc)).mono ?_; rintro e wq ⟨rfl, hb⟩; rw [← HIV.out]; have hc := below_next hc (Nat.le_refl _) hb)
                    | (go_at_call 16; refine (refInc_any s A A' nw c n c' wdx Fx y0 y1 y2 y3 y4 _ (HA1.out.next hc) (HT1.out.next hc)).mono ?_; rintro e wq ⟨rfl, hb⟩; rw [← HIV.out]; have hc := below_next hc (Nat.le_refl _) hb))
                all_goals
                  have K2 := Lib.hid (below_next K1.out (Nat.le_refl _) hc)
                  clear hc
                  go_wp2
                  exact ⟨⟨l + 1, by omega, by go_num, K2.out⟩, by simp [intOf]; omega⟩
              · obtain rfl : l = 3 := by omega
                have K0 := Lib.hid (below_next HBP.out (Nat.le_refl _) hb)
                clear hb
                go_wp2_with fail
                exact ⟨⟨j + 1, by omega, by go_num, K0.out⟩, by simp [intOf]; omega⟩
        · obtain rfl : j = 3 := by omega
          have HB8 := Lib.hid (below_next HCV.out (Nat.le_refl _) hb)
          clear hb
          obtain ⟨z, hz⟩ : ∃ z, nn % 200 = z := ⟨_, rfl⟩
          have HZ := Lib.hid hz
          clear hz
          have BYR := BY5.out.next HB8.out
          have BJR := BJ.out.next HB8.out
          have HDR := Lib.hid (HD.out.next (below_next HBX.out (Nat.le_refl _) HB8.out))
          have q0 := BYR.cell 0
          have q1 := BYR.cell 1
          have q2 := BYR.cell 2
          simp at q0 q1 q2
          have v0 := BJR.cell 0
          have v1 := BJR.cell 1
          have v2 := BJR.cell 2
          have v3 := BJR.cell 3
          have v4 := BJR.cell 4
          simp at v0 v1 v2 v3 v4
          have zyR : SB < R.heap.size := BYR.lt
          have zjR : JB < R.heap.size := BJR.lt
          clear BYR BJR
          go_wp2_with (go_at_call 17; refine (mod_any nn 200 (by decide) (by decide) f0 f1 _).mono ?_; rintro e w' ⟨rfl, rfl⟩; rw [HZ.out])
          have hc : Below R.heap.size R R.drew := (Below.refl _ _).drew
          obtain ⟨cz, hcz⟩ : ∃ x, x = Hd.ceilZ j4 K := ⟨_, rfl⟩
          obtain ⟨ez, hez⟩ : ∃ x, x = extZ K j4 z := ⟨_, rfl⟩
          have HCZ := Lib.hid hcz
          have HEZ := Lib.hid hez
          clear hcz hez
          go_region_held3 (fun w' => w'.cell? ⟨SB, 0, none⟩ = some (.int .i64 K) ∧ w'.cell? ⟨SB, 1, none⟩ = some (.slice B mk d) ∧ w'.cell? ⟨SB, 2, none⟩ = some (.slice (some ⟨gb, 0, none⟩) m d') ∧ w'.cell? ⟨JB, 0, none⟩ = some (.int .i64 j0) ∧ w'.cell? ⟨JB, 1, none⟩ = some (.int .i64 j1) ∧ w'.cell? ⟨JB, 2, none⟩ = some (.int .i64 j2) ∧ w'.cell? ⟨JB, 3, none⟩ = some (.int .i64 j3) ∧ w'.cell? ⟨JB, 4, none⟩ = some (.int .i64 j4))
            (first | (with_reducible exact ⟨(hc.cell (p := ⟨_, 0, none⟩) zyR).trans q0, (hc.cell (p := ⟨_, 1, none⟩) zyR).trans q1, (hc.cell (p := ⟨_, 2, none⟩) zyR).trans q2, (hc.cell (p := ⟨_, 0, none⟩) zjR).trans v0, (hc.cell (p := ⟨_, 1, none⟩) zjR).trans v1, (hc.cell (p := ⟨_, 2, none⟩) zjR).trans v2, (hc.cell (p := ⟨_, 3, none⟩) zjR).trans v3, (hc.cell (p := ⟨_, 4, none⟩) zjR).trans v4⟩) | go_keep)
            (first
              | (go_at_call 18; refine (frames9_any K j4 _ _ j0 j1 j2 j3 _).mono ?_; rintro e wq ⟨rfl, hb⟩; rw [← HCZ.out]; have hc := below_next hc (Nat.le_refl _) hb)
              | (go_at_call 19; refine (refFrames9_any K j4 _ _ j0 j1 j2 j3 _).mono ?_; rintro e wq ⟨rfl, hb⟩; rw [← HCZ.out]; have hc := below_next hc (Nat.le_refl _) hb)
              | (go_at_call 20; refine (extra9_any K j4 z _ _ j0 j1 j2 j3 _).mono ?_; rintro e wq ⟨rfl, hb⟩; rw [← HEZ.out]; have hc := below_next hc (Nat.le_refl _) hb)
              | (go_at_call 21; refine (refExtra9_any K j4 z _ _ j0 j1 j2 j3 _).mono ?_; rintro e wq ⟨rfl, hb⟩; rw [← HEZ.out]; have hc := below_next hc (Nat.le_refl _) hb)
              | (go_at_call 9; refine (awake9_any _ (HDR.out.next hc)).mono ?_; rintro e wq ⟨rfl, hb⟩; have hc := below_next hc (Nat.le_refl _) hb))
          all_goals
            have K9 := Lib.hid (below_next (below_next HBX.out (Nat.le_refl _) HB8.out) (Nat.le_refl _) hc)
            clear hc
            go_wp2
            go_ret
            exact ⟨rfl, K9.out⟩
end Go.Proofs.YthlkodhkhkdggaaDoor
