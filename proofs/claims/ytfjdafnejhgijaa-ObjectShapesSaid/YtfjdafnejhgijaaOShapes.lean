/-
  The walk of ObjectShapes. (Made by mkraw-s8.py.)
-/
import Derived.Test.YtfjdafnejhgijaaRaw
import Derived.Deep.RegionHeld3
import Derived.Deep.DeepCutAuto
import Derived.Deep.CutBlock
namespace Go.Proofs.Ytfjdafnejhgijaa
open Go.RowKit
set_option maxRecDepth 100000
set_option linter.unusedVariables false

set_option maxHeartbeats 16000000 in
theorem walkShapes8 (s : Int) (A A' : Option Addr) (nw c n c' : Nat) (wd0 : Nat → Int) (F0' : Nat → Fr) (Al : Option Addr) (nl cl : Nat) (a what at_ by_ : Int) (w : World) (hA : Arr w w.heap.size A nw c wd0) (hT : Tab w w.heap.size A' n c' F0') (hu0 : U64w nw wd0) (hL : ListP w w.heap.size Al nl cl)
    (a0 : -9223372036854775808 ≤ a) (a1 : a ≤ 9223372036854775807) (c0 : -9223372036854775808 ≤ what) (c1 : what ≤ 9223372036854775807) (d0 : -9223372036854775808 ≤ at_) (d1 : at_ ≤ 9223372036854775807) (e0 : -9223372036854775808 ≤ by_) (e1 : by_ ≤ 9223372036854775807) :
    Calls Try.prog 4 #[.agg #[.int .i64 s, .slice A nw c, .slice A' n c'], .slice Al nl cl, .int .i64 a, .int .i64 what, .int .i64 at_, .int .i64 by_] w fun e w' => e = .returned (.bool true) ∧ Below w.heap.size w w' := by
  obtain ⟨U, hU⟩ : ∃ U, U = w.alloc (.cells #[.int .i64 s, .slice A nw c, .slice A' n c'] 25) := ⟨_, rfl⟩
  have BX := Lib.hid (show Blk U w.heap.size 25 #[.int .i64 s, .slice A nw c, .slice A' n c'] by rw [hU]; exact Blk.new _ _ _)
  have hbu : Below w.heap.size w U := by rw [hU]; exact (Below.refl _ _).alloc (Nat.le_refl _) _
  have HBU := Lib.hid hbu
  have HU := Lib.hid hU
  have HL := Lib.hid (hL.next hbu)
  have HA0 := Lib.hid hA
  have HT0 := Lib.hid hT
  have HU0 := Lib.hid hu0
  have HAin := Lib.hid (show In8 a from ⟨a0, a1⟩)
  clear hL hU hbu hA hT hu0
  go_enter Try.func4, Try.ntmps4
  go_wp2_with fail
  rw [← HU.out]
  refine (small_any s A A' nw c n c' U).mono ?_
  rintro e U1 ⟨rfl, hb⟩
  have BX1 := Lib.hid (BX.out.next hb)
  have HBU1 := Lib.hid (below_next HBU.out (Nat.le_refl _) hb)
  have HL1 := Lib.hid (HL.out.next hb)
  clear hb BX HBU HL HU
  obtain ⟨sm, hsm, hn⟩ : ∃ b, (decide (nw ≤ 3000) && decide (n ≤ 80)) = b ∧ (b = true → nw ≤ 3000 ∧ n ≤ 80) := ⟨_, rfl, by simp⟩
  rw [hsm]
  clear hsm
  rcases sm with _ | _
  · go_wp2_with (go_at_call 10; refine (awake8_any _).mono ?_; rintro e w6 ⟨rfl, b6⟩; have HB6 := Lib.hid b6; clear b6)
    go_ret
    exact ⟨rfl, below_next HBU1.out (Nat.le_refl _) HB6.out⟩
  · have hnb := hn rfl
    clear hn
    go_wp2_with fail
    refine (deck_any Al nl cl U1 HL1.out).mono ?_
    rintro e U2 ⟨rfl, hd, hb, hz⟩
    have HDK := Lib.hid hd
    have BX2 := Lib.hid (BX1.out.next hb)
    have HBU2 := Lib.hid (below_next HBU1.out (Nat.le_refl _) hb)
    have zz := BX1.out.lt
    clear hd hb BX1 HBU1 HL1
    go_wp2_with fail
    refine (space_any U1.heap.size U2 HDK.out).mono ?_
    rintro e U3 ⟨K, m, B, d, gb, d', wd, F, L, rfl, kk0, kk1, m0, m1, hoA, hoT, ⟨hvp, how, hu⟩, ⟨_, I, BI, hBI, hLR, hAll⟩, hG⟩
    have BX3 := Lib.hid (BX2.out.turn hG (by omega))
    have HBU3 := Lib.hid (below_turn HBU2.out hG (by omega))
    have HVP := Lib.hid hvp
    have HU64 := Lib.hid hu
    have HALL := Lib.hid hAll
    have hmk0 : 0 < m * 2 ^ K := Nat.mul_pos (by omega) (Nat.two_pow_pos K)
    have hmk1 : m * 2 ^ K ≤ 16384 := prod_le (by omega) (by omega)
    obtain ⟨mk, hmk⟩ : ∃ mk, mk = m * 2 ^ K := ⟨_, rfl⟩
    rw [← hmk] at hoA HVP HU64 hmk0 hmk1 ⊢
    obtain ⟨V, hV⟩ : ∃ V, V = U3.alloc (.cells #[.int .i64 K, .slice B mk d, .slice (some ⟨gb, 0, none⟩) m d'] 25) := ⟨_, rfl⟩
    have hbv : Below U3.heap.size U3 V := by rw [hV]; exact (Below.refl _ _).alloc (Nat.le_refl _) _
    obtain ⟨SB, hSB⟩ : ∃ b, b = U3.heap.size := ⟨_, rfl⟩
    have BY := Lib.hid (show Blk V SB 25 #[.int .i64 K, .slice B mk d, .slice (some ⟨gb, 0, none⟩) m d'] by rw [hV, hSB]; exact Blk.new _ _ _)
    have BX4 := Lib.hid (BX3.out.next hbv)
    have HBV := Lib.hid (below_next HBU3.out (Nat.le_refl _) hbv)
    have HR4 := Lib.hid (show YV8 V s A nw c A' n c' from ⟨wd0, F0', (HA0.out.below HBV.out).more HBV.out.size, (HT0.out.below HBV.out).more HBV.out.size, HU0.out⟩)
    have HSA := Lib.hid (hoA.arr.next hbv)
    have HST := Lib.hid (hoT.tab.next hbv)
    have HLV := Lib.hid (hLR.below hbv)
    have NR := Lib.hid (show ∀ (W : World) (y : Int), Below V.heap.size V W → In8 y → Calls Try.prog 14 #[.agg #[.int .i64 K, .slice B mk d, .slice (some ⟨gb, 0, none⟩) m d'], L, .int .i64 y] W (NearOut W) from fun W y h hy => near_any K B (some ⟨gb, 0, none⟩) mk d m d' wd F I BI U3.heap.size L y W (HSA.out.next h) (HST.out.next h) HVP.out HU64.out HALL.out (HLV.out.below h) hy.1 hy.2)
    have HVV := Lib.hid hV
    have HSB := Lib.hid hSB
    clear hV hSB hbv BX3 HBU3 HA0 HT0 HU0 hG BX2 HBU2 HDK hz hoA hoT hmk hvp how hu hLR hAll hBI HLV
    go_wp2_with fail
    rw [← HVV.out]
    try rw [← HSB.out]
    clear HVV HSB
    have p0 := BX4.out.cell 0
    have p1 := BX4.out.cell 1
    have p2 := BX4.out.cell 2
    have q0 := BY.out.cell 0
    have q1 := BY.out.cell 1
    have q2 := BY.out.cell 2
    simp at p0 p1 p2 q0 q1 q2
    have hc : Below V.heap.size V V.drew := (Below.refl _ _).drew
    have zx : w.heap.size < V.heap.size := BX4.out.lt
    have zy : SB < V.heap.size := BY.out.lt
    have v0 := HR4.out.next hc
    have v1 : YV8 V.drew K B mk d (some ⟨gb, 0, none⟩) m d' := ⟨_, _, HSA.out.next hc, HST.out.next hc, HU64.out⟩
    go_upto_region 4 with fail
    go_cut [53, 54, 55] (fun q l i wx => l = .int .i64 4 ∧ i = .int .i64 0 ∧ ∃ Q, q = .slice (some ⟨Q, 0, none⟩) 4 4 ∧ (∀ j, j < 4 → ZAt8 wx Q j) ∧ Q < wx.heap.size ∧ Below V.heap.size V wx)
    case first =>
      go_region_held3 (fun w' => w'.cell? ⟨w.heap.size, 0, none⟩ = some (.int .i64 s) ∧ w'.cell? ⟨w.heap.size, 1, none⟩ = some (.slice A nw c) ∧ w'.cell? ⟨w.heap.size, 2, none⟩ = some (.slice A' n c') ∧ w'.cell? ⟨SB, 0, none⟩ = some (.int .i64 K) ∧ w'.cell? ⟨SB, 1, none⟩ = some (.slice B mk d) ∧ w'.cell? ⟨SB, 2, none⟩ = some (.slice (some ⟨gb, 0, none⟩) m d'))
        (first | (with_reducible exact ⟨(hc.cell (p := ⟨_, 0, none⟩) zx).trans p0, (hc.cell (p := ⟨_, 1, none⟩) zx).trans p1, (hc.cell (p := ⟨_, 2, none⟩) zx).trans p2, (hc.cell (p := ⟨_, 0, none⟩) zy).trans q0, (hc.cell (p := ⟨_, 1, none⟩) zy).trans q1, (hc.cell (p := ⟨_, 2, none⟩) zy).trans q2⟩) | go_keep)
        (first
          | (go_at_call 13; (with_reducible show Calls _ _ #[_, .int .i64 what, _, _] _ _); refine (spoilt8_any K B (some ⟨gb, 0, none⟩) mk d m d' wd F what at_ by_ _ (HSA.out.next hc) (HST.out.next hc) (by omega) (by omega) (by omega) hmk0 c0 c1 d0 d1 e0 e1).mono ?_; rintro e wq ⟨k1, nw1, c1', g1, c1'', A1, wd1, F1, rfl, lo1, hi1, ho, ht, hb, hP⟩; have hc := below_next hc (Nat.le_refl _) hb; have v2 : YV8 wq k1 A1 nw1 c1' (some ⟨g1, 0, none⟩) m c1'' := ⟨_, _, ho.arr, ht.tab, hP HU64.out⟩; have v0 := v0.next hb; have v1 := v1.next hb)
          | (go_at_call 14; refine (NR.out _ a hc HAin.out).mono ?_; rintro e wm ⟨vN, rfl, hvN, hbm⟩; have hc := below_next hc (Nat.le_refl _) hbm; have v0 := v0.next hbm; have v1 := v1.next hbm; (try have v2 := v2.next hbm))
          | (go_at_call 13; (with_reducible show Calls _ _ #[_, .int .i64 3, _, _] _ _); refine (spoilt8_any K B (some ⟨gb, 0, none⟩) mk d m d' wd F 3 vN by_ _ (HSA.out.next hc) (HST.out.next hc) (by omega) (by omega) (by omega) hmk0 (by decide) (by decide) hvN.1 hvN.2 e0 e1).mono ?_; rintro e wq2 ⟨k2, nw2, c2', g2, c2'', A2, wd2, F2, rfl, lo2, hi2, ho2, ht2, hb2, hP2⟩; have hc := below_next hc (Nat.le_refl _) hb2; have v3 : YV8 wq2 k2 A2 nw2 c2' (some ⟨g2, 0, none⟩) m c2'' := ⟨_, _, ho2.arr, ht2.tab, hP2 HU64.out⟩; have v0 := v0.next hb2; have v1 := v1.next hb2; (try have v2 := v2.next hb2)))
      have Z := Lib.hid (zat8_4 hc v1 v0 v2 v3 ⟨by omega, by omega⟩ ⟨by omega, by omega⟩ ⟨by omega, by omega⟩ ⟨by omega, by omega⟩)
      clear hc v0 v1 v2 v3
      go_wp2
      go_meet
      exact ⟨rfl, rfl, _, rfl, Z.out⟩
    case rest =>
      obtain ⟨C0, rfl⟩ : ∃ C0, C0 = wc := ⟨_, rfl⟩
      obtain ⟨rfl, rfl, Q, rfl, hZA, hQ, hB⟩ := hcut
      have HZA := Lib.hid hZA
      have HCV := Lib.hid hB
      clear hZA hB hc v0 v1 p0 p1 p2 q0 q1 q2 zx HR4 HSA HST BX4 hmk0 hnb c0 c1 d0 d1 e0 e1
      go_wp2_with fail
      go_loopw [55] (fun i wr => ∃ j : Nat, j ≤ 4 ∧ i = .int .i64 j ∧ Below C0.heap.size C0 wr) (fun i _ => 4 - (intOf i).toNat)
      case atStart => exact ⟨0, Nat.zero_le _, rfl, Below.refl _ _⟩
      case round =>
        obtain ⟨R, rfl⟩ : ∃ R, R = wr := ⟨_, rfl⟩
        obtain ⟨j, hj, rfl, hb⟩ := hrel
        by_cases hlt : j < 4
        · obtain ⟨s, A, nw, c, A', n, c', hbw, hbn, x0, x1, x2, hv⟩ := HZA.out j hlt
          have x0' := (hb.cell (p := ⟨Q, j * 3, none⟩) hQ).trans x0
          have x1' := (hb.cell (p := ⟨Q, j * 3 + 1, none⟩) hQ).trans x1
          have x2' := (hb.cell (p := ⟨Q, j * 3 + 2, none⟩) hQ).trans x2
          have zQ : Q < R.heap.size := Nat.lt_of_lt_of_le hQ hb.size
          obtain ⟨wd, F, hva, hvt, hu⟩ := hv.next hb
          have HU64 := Lib.hid hu
          have hj2 : 0 ≤ (j : Int) ∧ (j : Int) < 4 := by omega
          obtain ⟨P0, hP0⟩ : ∃ P, P = R.alloc (.cells #[.int .i64 s, .slice A nw c, .slice A' n c'] 25) := ⟨_, rfl⟩
          have BX := Lib.hid (show Blk P0 R.heap.size 25 #[.int .i64 s, .slice A nw c, .slice A' n c'] by rw [hP0]; exact Blk.new _ _ _)
          have hbp0 : Below R.heap.size R P0 := by rw [hP0]; exact (Below.refl _ _).alloc (Nat.le_refl _) _
          have hVP0 : Below V.heap.size V P0 := below_next (below_next HCV.out (Nat.le_refl _) hb) (Nat.le_refl _) hbp0
          have HVP0 := Lib.hid hVP0
          have hs0 : P0.heap.size = R.heap.size + 1 := by rw [hP0]; simp
          have HP0 := Lib.hid hP0
          have HVA := Lib.hid (hva.next hbp0)
          have HVT := Lib.hid (hvt.next hbp0)
          have HBP0 := Lib.hid (below_next hb (Nat.le_refl _) hbp0)
          have q0 := (hVP0.cell (p := ⟨SB, 0, none⟩) zy).trans (BY.out.cell 0)
          have q1 := (hVP0.cell (p := ⟨SB, 1, none⟩) zy).trans (BY.out.cell 1)
          have q2 := (hVP0.cell (p := ⟨SB, 2, none⟩) zy).trans (BY.out.cell 2)
          have qz : SB < P0.heap.size := Nat.lt_of_lt_of_le zy hVP0.size
          simp at q0 q1 q2
          clear hP0 hva hvt hu hv x0 x1 x2 hVP0 hbp0 hb hs0
          go_upto_region 7 with fail
          rw [← HP0.out]
          clear x0' x1' x2' zQ HP0
          go_wp2_with fail
          refine (NR.out P0 a HVP0.out HAin.out).mono ?_
          rintro e W1 ⟨vN, rfl, hvN, hb1⟩
          obtain ⟨P, hP⟩ : ∃ P, P = W1.alloc (.cells #[.int .i64 a, .int .i64 vN] 3) := ⟨_, rfl⟩
          have hbP : Below W1.heap.size W1 P := by rw [hP]; exact (Below.refl _ _).alloc (Nat.le_refl _) _
          have hb2 := below_next hb1 (Nat.le_refl _) hbP
          have BXP := Lib.hid (BX.out.next hb2)
          have BN := Lib.hid (show Blk P W1.heap.size 3 #[.int .i64 a, .int .i64 vN] by rw [hP]; exact Blk.new _ _ _)
          obtain ⟨N0, hN0⟩ : ∃ b, b = W1.heap.size := ⟨_, rfl⟩
          rw [← hN0] at BN
          have HAT := Lib.hid (show ∀ l, l < 2 → ∃ y, In8 y ∧ P.cell? ⟨N0, l, none⟩ = some (.int .i64 y) from fun l hl => by
            rcases (by omega : l = 0 ∨ l = 1) with e | e <;> subst e
            · exact ⟨a, HAin.out, BN.out.cell 0⟩
            · exact ⟨vN, hvN, BN.out.cell 1⟩)
          have zN : N0 < P.heap.size := BN.out.lt
          have HAP := Lib.hid (HVA.out.next hb2)
          have HTP := Lib.hid (HVT.out.next hb2)
          have HBP := Lib.hid (below_next HBP0.out (Nat.le_refl _) hb2)
          have HP := Lib.hid hP
          have HN0 := Lib.hid hN0
          clear hP hbP hb1 hb2 hN0 q0 q1 q2 qz BX HVA HVT HBP0 HVP0
          go_upto_region 8 with fail
          rw [← HP.out]
          try rw [← HN0.out]
          clear HP HN0
          go_loopw [66] (fun i wr2 => ∃ l : Nat, l ≤ 2 ∧ i = .int .i64 l ∧ Below P.heap.size P wr2) (fun i _ => 2 - (intOf i).toNat)
          case atStart => exact ⟨0, Nat.zero_le _, rfl, Below.refl _ _⟩
          case round =>
            obtain ⟨W0, rfl⟩ : ∃ W0, W0 = wr := ⟨_, rfl⟩
            obtain ⟨l, hl, rfl, hb⟩ := hrel
            by_cases hll : l < 2
            · obtain ⟨y, hy, t0⟩ := HAT.out l hll
              have t0' := (hb.cell (p := ⟨N0, l, none⟩) zN).trans t0
              have zN2 : N0 < W0.heap.size := Nat.lt_of_lt_of_le zN hb.size
              have BX0 := Lib.hid (BXP.out.next hb)
              have HA0 := Lib.hid (HAP.out.next hb)
              have HT0 := Lib.hid (HTP.out.next hb)
              have K0 := Lib.hid hb
              have hl2 : 0 ≤ (l : Int) ∧ (l : Int) < 2 := by omega
              obtain ⟨vr, hvr⟩ : ∃ v, v = shpR s nw wd n F y := ⟨_, rfl⟩
              obtain ⟨vd, hvd⟩ : ∃ v, v = shpD s nw wd n F y := ⟨_, rfl⟩
              obtain ⟨ve, hve⟩ : ∃ v, v = shpE s nw wd n F y := ⟨_, rfl⟩
              obtain ⟨vl, hvl, hvl2⟩ : ∃ v, v = sltL s nw wd n F y ∧ v.length ≤ 1048576 := ⟨_, rfl, by rw [sltL_length]; have := (shp_range (s := s) (n := n) (F := F) (a := y) HU64.out).2.1; omega⟩
              have CS := Lib.hid (fun W (h : Below W0.heap.size W0 W) => objShape_any s A A' nw c n c' wd F y W (HA0.out.next h) (HT0.out.next h) HU64.out hy.1 hy.2)
              have CR := Lib.hid (fun W (h : Below W0.heap.size W0 W) => refShape_any s A A' nw c n c' wd F y W (HA0.out.next h) (HT0.out.next h) HU64.out)
              have CL := Lib.hid (fun W (h : Below W0.heap.size W0 W) => objSlots_any s A A' nw c n c' wd F y W (HA0.out.next h) (HT0.out.next h) HU64.out hy.1 hy.2)
              have CM := Lib.hid (fun W (h : Below W0.heap.size W0 W) => refSlots_any s A A' nw c n c' wd F y W (HA0.out.next h) (HT0.out.next h) HU64.out)
              rw [← hvr, ← hvd, ← hve] at CS CR
              rw [← hve, ← hvl] at CL CM
              clear hvr hvd hve hvl hb t0
              have x0 := BX0.out.cell 0
              have x1 := BX0.out.cell 1
              have x2 := BX0.out.cell 2
              have xz := BX0.out.lt
              simp at x0 x1 x2
              go_wp2_with fail
              refine (CS.out _ (Below.refl _ _)).mono ?_
              rintro e W2 ⟨rfl, hb2⟩
              have BX2 := Lib.hid (BX0.out.next hb2)
              have HB2 := Lib.hid hb2
              clear hb2 x0 x1 x2 xz t0' zN2
              have x0 := BX2.out.cell 0
              have x1 := BX2.out.cell 1
              have x2 := BX2.out.cell 2
              have xz := BX2.out.lt
              simp at x0 x1 x2
              go_wp2_with fail
              refine (CR.out _ HB2.out).mono ?_
              rintro e W3 ⟨rfl, hb2⟩
              have BX3 := Lib.hid (BX2.out.next hb2)
              have HB3 := Lib.hid (below_next HB2.out (Nat.le_refl _) hb2)
              clear hb2 x0 x1 x2 xz
              have x0 := BX3.out.cell 0
              have x1 := BX3.out.cell 1
              have x2 := BX3.out.cell 2
              have xz := BX3.out.lt
              simp at x0 x1 x2
              go_wp2_with fail
              refine (CL.out _ HB3.out).mono ?_
              rintro e W4 ⟨LA, lc, rfl, hn4, hb2⟩
              have HN4 := Lib.hid hn4
              have BX4 := Lib.hid (BX3.out.next hb2)
              have HB4 := Lib.hid (below_next HB3.out (Nat.le_refl _) hb2)
              clear hb2 x0 x1 x2 xz hn4
              have x0 := BX4.out.cell 0
              have x1 := BX4.out.cell 1
              have x2 := BX4.out.cell 2
              have xz := BX4.out.lt
              simp at x0 x1 x2
              go_wp2_with fail
              refine (CM.out _ HB4.out).mono ?_
              rintro e W5 ⟨LB, lc2, rfl, hn5, hb2⟩
              have HN5 := Lib.hid hn5
              have HN4' := Lib.hid (HN4.out.next hb2)
              have HB5 := Lib.hid (below_next HB4.out (Nat.le_refl _) hb2)
              clear hb2 x0 x1 x2 xz hn5
              go_wp2_with fail
              refine (sameInts_yes LA LB vl.length lc lc2 (numF vl) W5 HN4'.out HN5.out hvl2).mono ?_
              rintro e W6 ⟨rfl, hb2⟩
              have K6 := Lib.hid (below_next K0.out (Nat.le_refl _) (below_next HB5.out (Nat.le_refl _) hb2))
              clear hb2
              go_wp2_with fail
              exact ⟨⟨l + 1, by omega, by go_num, K6.out⟩, by simp [intOf]; omega⟩
            · obtain rfl : l = 2 := by omega
              have K0 := Lib.hid (below_next HBP.out (Nat.le_refl _) hb)
              clear hb
              go_wp2_with fail
              exact ⟨⟨j + 1, by omega, by go_num, K0.out⟩, by simp [intOf]; omega⟩
        · obtain rfl : j = 4 := by omega
          have HB8 := Lib.hid (below_next HBV.out (Nat.le_refl _) (below_next HCV.out (Nat.le_refl _) hb))
          clear hb
          go_wp2_with (go_at_call 10; refine (awake8_any _).mono ?_; rintro e w9 ⟨rfl, hb9⟩)
          go_ret
          exact ⟨rfl, below_next HB8.out (Nat.le_refl _) hb9⟩
end Go.Proofs.Ytfjdafnejhgijaa
