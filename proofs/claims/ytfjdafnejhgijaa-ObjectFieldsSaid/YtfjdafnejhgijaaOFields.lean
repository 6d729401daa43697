/-
  The walk of ObjectFields. (Made by mkraw-s8.py.)
-/
import Derived.Test.YtfjdafnejhgijaaRaw
import Derived.Deep.RegionHeld3
import Derived.Deep.DeepCutAuto
import Derived.Deep.CutBlock
import Derived.Test.YtfjdafnejhgijaaFld
import Derived.Test.YtfjdafnejhgijaaSet
namespace Go.Proofs.Ytfjdafnejhgijaa
open Go.RowKit
set_option maxRecDepth 100000
set_option linter.unusedVariables false

set_option maxHeartbeats 16000000 in
theorem walkFields8 (s : Int) (A A' : Option Addr) (nw c n c' : Nat) (wd0 : Nat → Int) (F0' : Nat → Fr) (Al : Option Addr) (nl cl : Nat) (a i v what at_ by_ : Int) (w : World) (hA : Arr w w.heap.size A nw c wd0) (hT : Tab w w.heap.size A' n c' F0') (hu0 : U64w nw wd0) (hL : ListP w w.heap.size Al nl cl)
    (a0 : -9223372036854775808 ≤ a) (a1 : a ≤ 9223372036854775807) (g0 : -9223372036854775808 ≤ i) (g1 : i ≤ 9223372036854775807) (c0 : -9223372036854775808 ≤ what) (c1 : what ≤ 9223372036854775807) (d0 : -9223372036854775808 ≤ at_) (d1 : at_ ≤ 9223372036854775807) (e0 : -9223372036854775808 ≤ by_) (e1 : by_ ≤ 9223372036854775807) :
    Calls Try.prog 5 #[.agg #[.int .i64 s, .slice A nw c, .slice A' n c'], .slice Al nl cl, .int .i64 a, .int .i64 i, .int .u64 v, .int .i64 what, .int .i64 at_, .int .i64 by_] w fun e w' => e = .returned (.bool true) ∧ Below w.heap.size w w' := by
  obtain ⟨U, hU⟩ : ∃ U, U = w.alloc (.cells #[.int .i64 s, .slice A nw c, .slice A' n c'] 25) := ⟨_, rfl⟩
  have BX := Lib.hid (show Blk U w.heap.size 25 #[.int .i64 s, .slice A nw c, .slice A' n c'] by rw [hU]; exact Blk.new _ _ _)
  have hbu : Below w.heap.size w U := by rw [hU]; exact (Below.refl _ _).alloc (Nat.le_refl _) _
  have HBU := Lib.hid hbu
  have HU := Lib.hid hU
  have HL := Lib.hid (hL.next hbu)
  have HA0 := Lib.hid hA
  have HT0 := Lib.hid hT
  have HU0 := Lib.hid hu0
  have hin_a : In8 a := ⟨a0, a1⟩
  have hin_i : In8 i := ⟨g0, g1⟩
  clear hL hU hbu hA hT hu0 g0 g1
  go_enter Try.func5, Try.ntmps5
  go_wp2_with fail
  rw [← HU.out]
  refine (small_any s A A' nw c n c' U).mono ?_
  rintro e U1 ⟨rfl, hb⟩
  have BX1 := Lib.hid (BX.out.next hb)
  have HBU1 := Lib.hid (below_next HBU.out (Nat.le_refl _) hb)
  have HL1 := Lib.hid (HL.out.next hb)
  clear hb BX HBU HL HU
  obtain ⟨sm, hsm, hn⟩ : ∃ b, (decide (nw ≤ 3000) && decide (n ≤ 80)) = b ∧ (b = true → nw ≤ 3000 ∧ n ≤ 80) := ⟨_, rfl, by simp⟩
  rw [hsm]
  clear hsm
  rcases sm with _ | _
  · go_wp2_with (go_at_call 10; refine (awake8_any _).mono ?_; rintro e w6 ⟨rfl, b6⟩; have HB6 := Lib.hid b6; clear b6)
    go_ret
    exact ⟨rfl, below_next HBU1.out (Nat.le_refl _) HB6.out⟩
  · have hnb := hn rfl
    clear hn
    go_wp2_with fail
    refine (deck_any Al nl cl U1 HL1.out).mono ?_
    rintro e U2 ⟨rfl, hd, hb, hz⟩
    have HDK := Lib.hid hd
    have BX2 := Lib.hid (BX1.out.next hb)
    have HBU2 := Lib.hid (below_next HBU1.out (Nat.le_refl _) hb)
    have zz := BX1.out.lt
    clear hd hb BX1 HBU1 HL1
    go_wp2_with fail
    refine (space_any U1.heap.size U2 HDK.out).mono ?_
    rintro e U3 ⟨K, m, B, d, gb, d', wd, F, L, rfl, kk0, kk1, m0, m1, hoA, hoT, ⟨hvp, how, hu⟩, ⟨_, I, BI, hBI, hLR, hAll⟩, hG⟩
    have BX3 := Lib.hid (BX2.out.turn hG (by omega))
    have HBU3 := Lib.hid (below_turn HBU2.out hG (by omega))
    have HVP := Lib.hid hvp
    have HU64 := Lib.hid hu
    have HALL := Lib.hid hAll
    have hmk0 : 0 < m * 2 ^ K := Nat.mul_pos (by omega) (Nat.two_pow_pos K)
    have hmk1 : m * 2 ^ K ≤ 16384 := prod_le (by omega) (by omega)
    obtain ⟨mk, hmk⟩ : ∃ mk, mk = m * 2 ^ K := ⟨_, rfl⟩
    rw [← hmk] at hoA HVP HU64 hmk0 hmk1 ⊢
    obtain ⟨V, hV⟩ : ∃ V, V = U3.alloc (.cells #[.int .i64 K, .slice B mk d, .slice (some ⟨gb, 0, none⟩) m d'] 25) := ⟨_, rfl⟩
    have hbv : Below U3.heap.size U3 V := by rw [hV]; exact (Below.refl _ _).alloc (Nat.le_refl _) _
    obtain ⟨SB, hSB⟩ : ∃ b, b = U3.heap.size := ⟨_, rfl⟩
    have BY := Lib.hid (show Blk V SB 25 #[.int .i64 K, .slice B mk d, .slice (some ⟨gb, 0, none⟩) m d'] by rw [hV, hSB]; exact Blk.new _ _ _)
    have BX4 := Lib.hid (BX3.out.next hbv)
    have HBV := Lib.hid (below_next HBU3.out (Nat.le_refl _) hbv)
    have HR4 := Lib.hid (show YV8 V s A nw c A' n c' from ⟨wd0, F0', (HA0.out.below HBV.out).more HBV.out.size, (HT0.out.below HBV.out).more HBV.out.size, HU0.out⟩)
    have HSA := Lib.hid (hoA.arr.next hbv)
    have HST := Lib.hid (hoT.tab.next hbv)
    have HLV := Lib.hid (hLR.below hbv)
    have NR := Lib.hid (show ∀ (W : World) (y : Int), Below V.heap.size V W → In8 y → Calls Try.prog 14 #[.agg #[.int .i64 K, .slice B mk d, .slice (some ⟨gb, 0, none⟩) m d'], L, .int .i64 y] W (NearOut W) from fun W y h hy => near_any K B (some ⟨gb, 0, none⟩) mk d m d' wd F I BI U3.heap.size L y W (HSA.out.next h) (HST.out.next h) HVP.out HU64.out HALL.out (HLV.out.below h) hy.1 hy.2)
    have HVV := Lib.hid hV
    have HSB := Lib.hid hSB
    clear hV hSB hbv BX3 HBU3 HA0 HT0 HU0 hG BX2 HBU2 HDK hz hoA hoT hmk hvp how hu hLR hAll hBI HLV
    go_wp2_with fail
    rw [← HVV.out]
    try rw [← HSB.out]
    clear HVV HSB
    have p0 := BX4.out.cell 0
    have p1 := BX4.out.cell 1
    have p2 := BX4.out.cell 2
    have q0 := BY.out.cell 0
    have q1 := BY.out.cell 1
    have q2 := BY.out.cell 2
    simp at p0 p1 p2 q0 q1 q2
    have hc : Below V.heap.size V V.drew := (Below.refl _ _).drew
    have zx : w.heap.size < V.heap.size := BX4.out.lt
    have zy : SB < V.heap.size := BY.out.lt
    have v0 := HR4.out.next hc
    have v1 : YV8 V.drew K B mk d (some ⟨gb, 0, none⟩) m d' := ⟨_, _, HSA.out.next hc, HST.out.next hc, HU64.out⟩
    go_upto_region 4 with fail
    go_cut [48, 49, 50] (fun q l i wx => l = .int .i64 3 ∧ i = .int .i64 0 ∧ ∃ Q, q = .slice (some ⟨Q, 0, none⟩) 3 3 ∧ (∀ j, j < 3 → ZAt8 wx Q j) ∧ Q < wx.heap.size ∧ Below V.heap.size V wx)
    case first =>
      go_region_held3 (fun w' => w'.cell? ⟨w.heap.size, 0, none⟩ = some (.int .i64 s) ∧ w'.cell? ⟨w.heap.size, 1, none⟩ = some (.slice A nw c) ∧ w'.cell? ⟨w.heap.size, 2, none⟩ = some (.slice A' n c') ∧ w'.cell? ⟨SB, 0, none⟩ = some (.int .i64 K) ∧ w'.cell? ⟨SB, 1, none⟩ = some (.slice B mk d) ∧ w'.cell? ⟨SB, 2, none⟩ = some (.slice (some ⟨gb, 0, none⟩) m d'))
        (first | (with_reducible exact ⟨(hc.cell (p := ⟨_, 0, none⟩) zx).trans p0, (hc.cell (p := ⟨_, 1, none⟩) zx).trans p1, (hc.cell (p := ⟨_, 2, none⟩) zx).trans p2, (hc.cell (p := ⟨_, 0, none⟩) zy).trans q0, (hc.cell (p := ⟨_, 1, none⟩) zy).trans q1, (hc.cell (p := ⟨_, 2, none⟩) zy).trans q2⟩) | go_keep)
        (first
          | (go_at_call 13; (with_reducible show Calls _ _ #[_, .int .i64 what, _, _] _ _); refine (spoilt8_any K B (some ⟨gb, 0, none⟩) mk d m d' wd F what at_ by_ _ (HSA.out.next hc) (HST.out.next hc) (by omega) (by omega) (by omega) hmk0 c0 c1 d0 d1 e0 e1).mono ?_; rintro e wq ⟨k1, nw1, c1', g1, c1'', A1, wd1, F1, rfl, lo1, hi1, ho, ht, hb, hP⟩; have hc := below_next hc (Nat.le_refl _) hb; have v2 : YV8 wq k1 A1 nw1 c1' (some ⟨g1, 0, none⟩) m c1'' := ⟨_, _, ho.arr, ht.tab, hP HU64.out⟩; have v0 := v0.next hb; have v1 := v1.next hb))
      have Z := Lib.hid (zat8_3 hc v1 v0 v2 ⟨by omega, by omega⟩ ⟨by omega, by omega⟩ ⟨by omega, by omega⟩)
      clear hc v0 v1 v2
      go_wp2
      go_meet
      exact ⟨rfl, rfl, _, rfl, Z.out⟩
    case rest =>
      obtain ⟨C0, rfl⟩ : ∃ C0, C0 = wc := ⟨_, rfl⟩
      obtain ⟨rfl, rfl, Q, rfl, hZA, hQ, hB⟩ := hcut
      have HZA := Lib.hid hZA
      have HCV := Lib.hid hB
      clear hZA hB hc v0 v1 p0 p1 p2 q0 q1 q2 zx HR4 HSA HST BX4 hmk0 hnb c0 c1 d0 d1 e0 e1
      go_wp2_with fail
      go_loopw [50] (fun i wr => ∃ j : Nat, j ≤ 3 ∧ i = .int .i64 j ∧ Below C0.heap.size C0 wr) (fun i _ => 3 - (intOf i).toNat)
      case atStart => exact ⟨0, Nat.zero_le _, rfl, Below.refl _ _⟩
      case round =>
        obtain ⟨R, rfl⟩ : ∃ R, R = wr := ⟨_, rfl⟩
        obtain ⟨j, hj, rfl, hb⟩ := hrel
        by_cases hlt : j < 3
        · obtain ⟨s, A, nw, c, A', n, c', hbw, hbn, x0, x1, x2, hv⟩ := HZA.out j hlt
          have x0' := (hb.cell (p := ⟨Q, j * 3, none⟩) hQ).trans x0
          have x1' := (hb.cell (p := ⟨Q, j * 3 + 1, none⟩) hQ).trans x1
          have x2' := (hb.cell (p := ⟨Q, j * 3 + 2, none⟩) hQ).trans x2
          have zQ : Q < R.heap.size := Nat.lt_of_lt_of_le hQ hb.size
          obtain ⟨wd, F, hva, hvt, hu⟩ := hv.next hb
          have HU64 := Lib.hid hu
          have hj2 : 0 ≤ (j : Int) ∧ (j : Int) < 3 := by omega
          obtain ⟨P0, hP0⟩ : ∃ P, P = R.alloc (.cells #[.int .i64 s, .slice A nw c, .slice A' n c'] 25) := ⟨_, rfl⟩
          have BX := Lib.hid (show Blk P0 R.heap.size 25 #[.int .i64 s, .slice A nw c, .slice A' n c'] by rw [hP0]; exact Blk.new _ _ _)
          have hbp0 : Below R.heap.size R P0 := by rw [hP0]; exact (Below.refl _ _).alloc (Nat.le_refl _) _
          have hVP0 : Below V.heap.size V P0 := below_next (below_next HCV.out (Nat.le_refl _) hb) (Nat.le_refl _) hbp0
          have HVP0 := Lib.hid hVP0
          have hs0 : P0.heap.size = R.heap.size + 1 := by rw [hP0]; simp
          have HP0 := Lib.hid hP0
          have HVA := Lib.hid (hva.next hbp0)
          have HVT := Lib.hid (hvt.next hbp0)
          have HBP0 := Lib.hid (below_next hb (Nat.le_refl _) hbp0)
          have q0 := (hVP0.cell (p := ⟨SB, 0, none⟩) zy).trans (BY.out.cell 0)
          have q1 := (hVP0.cell (p := ⟨SB, 1, none⟩) zy).trans (BY.out.cell 1)
          have q2 := (hVP0.cell (p := ⟨SB, 2, none⟩) zy).trans (BY.out.cell 2)
          have qz : SB < P0.heap.size := Nat.lt_of_lt_of_le zy hVP0.size
          simp at q0 q1 q2
          clear hP0 hva hvt hu hv x0 x1 x2 hVP0 hbp0 hb hs0
          go_upto_region 7 with fail
          rw [← HP0.out]
          clear x0' x1' x2' zQ HP0
          obtain ⟨z6, hz6, z60, z61⟩ : ∃ z, i % 6 = z ∧ 0 ≤ z ∧ z < 6 := ⟨_, rfl, by omega, by omega⟩
          have Hz6 := Lib.hid hz6
          clear hz6
          have hin_z6 : In8 z6 := ⟨by omega, by omega⟩
          have hin_z6m : In8 (z6 - 1) := ⟨by omega, by omega⟩
          have wz6 : IntKind.i64.wrap (z6 - 1) = z6 - 1 := IntWalk.i64_in _ (by omega)
          clear z60 z61
          have hp : Below P0.heap.size P0 P0.drew := (Below.refl _ _).drew
          have hP0 := HVP0.out
          have q0d : P0.drew.cell? ⟨SB, 0, none⟩ = some (.int .i64 K) := q0
          have q1d : P0.drew.cell? ⟨SB, 1, none⟩ = some (.slice B mk d) := q1
          have q2d : P0.drew.cell? ⟨SB, 2, none⟩ = some (.slice (some ⟨gb, 0, none⟩) m d') := q2
          go_cut [71, 72, 73] (fun v len i wx => len = .int .i64 3 ∧ i = .int .i64 0 ∧ ∃ Q, v = .slice (some ⟨Q, 0, none⟩) 3 3 ∧ Rows2 wx Q ∧ Below P0.heap.size P0 wx)
          case first => as_aux_lemma =>
            clear hj hj2 HBP0 HVA HVT BX HU64 HZA HBV HCV BY HVP HALL hlt hbw hbn
            go_region_held3 (fun w' => w'.cell? ⟨SB, 0, none⟩ = some (.int .i64 K) ∧ w'.cell? ⟨SB, 1, none⟩ = some (.slice B mk d) ∧ w'.cell? ⟨SB, 2, none⟩ = some (.slice (some ⟨gb, 0, none⟩) m d'))
              (first | (with_reducible exact ⟨q0d, q1d, q2d⟩) | (exact ⟨(Below.cell (p := ⟨_, 0, none⟩) (show Below P0.heap.size P0 _ by repeat (first | (with_reducible assumption) | (with_reducible exact Below.refl _ _) | (with_reducible refine Below.drew ?_) | (with_reducible refine below_alloc8 ?_ _))) qz).trans q0, (Below.cell (p := ⟨_, 1, none⟩) (show Below P0.heap.size P0 _ by repeat (first | (with_reducible assumption) | (with_reducible exact Below.refl _ _) | (with_reducible refine Below.drew ?_) | (with_reducible refine below_alloc8 ?_ _))) qz).trans q1, (Below.cell (p := ⟨_, 2, none⟩) (show Below P0.heap.size P0 _ by repeat (first | (with_reducible assumption) | (with_reducible exact Below.refl _ _) | (with_reducible refine Below.drew ?_) | (with_reducible refine below_alloc8 ?_ _))) qz).trans q2⟩) | go_keep)
              (first
                | (go_at_call 14; refine (NR.out _ a (below_next hP0 (Nat.le_refl _) (by repeat (first | (with_reducible assumption) | (with_reducible exact Below.refl _ _) | (with_reducible refine Below.drew ?_) | (with_reducible refine below_alloc8 ?_ _)))) hin_a).mono ?_; rintro e wn ⟨vN, rfl, hvN, hbn⟩; have hp : Below P0.heap.size P0 wn := below_next (by repeat (first | (with_reducible assumption) | (with_reducible exact Below.refl _ _) | (with_reducible refine Below.drew ?_) | (with_reducible refine below_alloc8 ?_ _))) (Nat.le_refl _) hbn; have HNB := Lib.hid hbn; clear hbn)
                | (go_at_call 15; (with_reducible show Calls _ _ #[.int .i64 i, .int .i64 6] _ _); refine (mod_any i 6 (by decide) (by decide) hin_i.1 hin_i.2 _).mono ?_; rintro e w' ⟨rfl, rfl⟩; rw [Hz6.out]))
            all_goals
              go_wp2
              go_meet
              refine ⟨rfl, rfl, _, rfl, ?_, by repeat (first | (with_reducible assumption) | (with_reducible exact Below.refl _ _) | (with_reducible refine Below.drew ?_) | (with_reducible refine below_alloc8 ?_ _))⟩
              apply rows2_of
              repeat (first | (with_reducible assumption) | (with_reducible refine Blk.drew8 ?_) | (with_reducible exact Blk.new _ _ _) | ((with_reducible refine Blk.newAt _ _ _ _ ?_); (focus (simp; done))) | (with_reducible refine Blk.alloc ?_ _) | ((with_reducible apply Blk.next8); (with_reducible assumption)))
          case rest =>
            obtain ⟨P, rfl⟩ : ∃ P, P = wc := ⟨_, rfl⟩
            obtain ⟨rfl, rfl, Q2, rfl, hRows, hbP⟩ := hcut
            clear hin_z6 hin_z6m wz6 Hz6
            have HROW := Lib.hid hRows
            have hQ2 : Q2 < P.heap.size := by obtain ⟨_, _, _, _, _, _, h⟩ := hRows 0 (by decide); exact cell_lt h
            have BXP := Lib.hid (BX.out.next hbP)
            have HAP := Lib.hid (HVA.out.next hbP)
            have HTP := Lib.hid (HVT.out.next hbP)
            have HBP := Lib.hid (below_next HBP0.out (Nat.le_refl _) hbP)
            clear hRows hbP hp hP0 q0d q1d q2d q0 q1 q2 qz HVP0 HVA HVT BX HBP0
            go_wp2_with fail
            go_loopw [73] (fun i wr2 => ∃ l : Nat, l ≤ 3 ∧ i = .int .i64 l ∧ Below P.heap.size P wr2) (fun i _ => 3 - (intOf i).toNat)
            case atStart => exact ⟨0, Nat.zero_le _, rfl, Below.refl _ _⟩
            case round =>
              obtain ⟨W0, rfl⟩ : ∃ W0, W0 = wr := ⟨_, rfl⟩
              obtain ⟨l, hl, rfl, hb⟩ := hrel
              by_cases hll : l < 3
              · have zb0 := hb.size
                obtain ⟨b, x, y, hbr, hx, hy, t0⟩ := HROW.out l hll
                have t0' := (hb.cell (p := ⟨Q2, l, none⟩) hQ2).trans t0
                have zq2 : Q2 < W0.heap.size := Nat.lt_of_lt_of_le hQ2 hb.size
                have hbr0 := hbr.next hb
                have hbx0 := BXP.out.next hb
                have E0 := Lib.hid (show El8 W0 R.heap.size b s (.slice A nw c) (.slice A' n c') x y from ⟨hbx0.cell 0, hbx0.cell 1, hbx0.cell 2, hbr0.cell 0, hbr0.cell 1, hbx0.lt, hbr0.lt⟩)
                have HA0 := Lib.hid (HAP.out.next hb)
                have HT0 := Lib.hid (HTP.out.next hb)
                have K0 := Lib.hid hb
                obtain ⟨v1, hv1⟩ : ∃ z, z = getV s nw wd n F x y true := ⟨_, rfl⟩
                obtain ⟨e1', he1⟩ : ∃ z, z = plcE s nw wd n F x y true := ⟨_, rfl⟩
                obtain ⟨v2, hv2⟩ : ∃ z, z = getV s nw wd n F x y false := ⟨_, rfl⟩
                obtain ⟨e2', he2⟩ : ∃ z, z = plcE s nw wd n F x y false := ⟨_, rfl⟩
                have HV1 := Lib.hid hv1
                have HE1 := Lib.hid he1
                have HV2 := Lib.hid hv2
                have HE2 := Lib.hid he2
                obtain ⟨s1, nw1, n1, wd1, F1, g1, hnw1, hn1, hN1⟩ := set_val s nw wd n F x y true v hbw hbn
                obtain ⟨s2, nw2, n2, wd2, F2, g2, hnw2, hn2, hN2⟩ := set_val s nw wd n F x y false v hbw hbn
                have HN1 := Lib.hid hN1
                have HN2 := Lib.hid hN2
                clear hb t0 hbr hbr0 hbx0 zb0 hv1 he1 hv2 he2 hN1 hN2
                have hl2 : 0 ≤ (l : Int) ∧ (l : Int) < 3 := by omega
                go_upto_region 10 with fail
                clear t0' zq2
                obtain ⟨x0, x1, x2, x3, x4, zx, zt⟩ := E0.out
                have E0d : Hid (El8 W0.drew R.heap.size b s (.slice A nw c) (.slice A' n c') x y) := E0.out
                have HAD0 : Hid (Arr W0.drew W0.drew.heap.size A nw c wd) := HA0.out
                have HTD0 : Hid (Tab W0.drew W0.drew.heap.size A' n c' F) := HT0.out
                go_wp2_with fail
                go_region_held3 (fun w' => w'.cell? ⟨R.heap.size, 0, none⟩ = some (.int .i64 s) ∧ w'.cell? ⟨R.heap.size, 1, none⟩ = some (.slice A nw c) ∧ w'.cell? ⟨R.heap.size, 2, none⟩ = some (.slice A' n c') ∧ w'.cell? ⟨b, 0, none⟩ = some (.int .i64 x) ∧ w'.cell? ⟨b, 1, none⟩ = some (.int .i64 y))
                  (first | exact ⟨x0, x1, x2, x3, x4⟩ | exact ⟨u0, u1, u2, u3, u4⟩)
                  (first | (go_at_call 24; refine (objRef_any s A A' nw c n c' wd F x y _ HAD0.out HTD0.out HU64.out hx.1 hx.2).mono ?_; rintro e W1 ⟨rfl, hb⟩; rw [← HV1.out, ← HE1.out]; obtain ⟨u0, u1, u2, u3, u4, _, _⟩ := E0d.out.next hb))
                have E1 := Lib.hid (E0d.out.next hb)
                have HA1 := Lib.hid (HAD0.out.next hb)
                have HT1 := Lib.hid (HTD0.out.next hb)
                have K1 := Lib.hid (below_next K0.out.drew (Nat.le_refl _) hb)
                clear x0 x1 x2 x3 x4 zx zt u0 u1 u2 u3 u4 hb E0 E0d K0 HA0 HT0 HAD0 HTD0
                obtain ⟨x0, x1, x2, x3, x4, zx, zt⟩ := E1.out
                have E1d : Hid (El8 W1.drew R.heap.size b s (.slice A nw c) (.slice A' n c') x y) := E1.out
                have HAD1 : Hid (Arr W1.drew W1.drew.heap.size A nw c wd) := HA1.out
                have HTD1 : Hid (Tab W1.drew W1.drew.heap.size A' n c' F) := HT1.out
                go_wp2_with fail
                go_region_held3 (fun w' => w'.cell? ⟨R.heap.size, 0, none⟩ = some (.int .i64 s) ∧ w'.cell? ⟨R.heap.size, 1, none⟩ = some (.slice A nw c) ∧ w'.cell? ⟨R.heap.size, 2, none⟩ = some (.slice A' n c') ∧ w'.cell? ⟨b, 0, none⟩ = some (.int .i64 x) ∧ w'.cell? ⟨b, 1, none⟩ = some (.int .i64 y))
                  (first | exact ⟨x0, x1, x2, x3, x4⟩ | exact ⟨u0, u1, u2, u3, u4⟩)
                  (first | (go_at_call 25; refine (refRef_any s A A' nw c n c' wd F x y _ HAD1.out HTD1.out HU64.out).mono ?_; rintro e W2 ⟨rfl, hb⟩; rw [← HV1.out, ← HE1.out]; obtain ⟨u0, u1, u2, u3, u4, _, _⟩ := E1d.out.next hb))
                have E2 := Lib.hid (E1d.out.next hb)
                have HA2 := Lib.hid (HAD1.out.next hb)
                have HT2 := Lib.hid (HTD1.out.next hb)
                have K2 := Lib.hid (below_next K1.out.drew (Nat.le_refl _) hb)
                clear x0 x1 x2 x3 x4 zx zt u0 u1 u2 u3 u4 hb E1 E1d K1 HA1 HT1 HAD1 HTD1
                obtain ⟨y0, y1, y2, y3, y4, zbx, zbW⟩ := E2.out
                have N := Lib.hid (show ∀ W, Below W2.heap.size W2 W → Calls Try.prog 26 #[.agg #[.int .i64 s, .slice A nw c, .slice A' n c'], .int .i64 x, .int .i64 y, .int .u64 v] W (GivesS8 s1 nw1 n1 wd1 F1 g1 W) from
                  fun W hW => (objSetRef_any s A A' nw c n c' wd F x y v W (HA2.out.next hW) (HT2.out.next hW) HU64.out hx.1 hx.2).mono (fun e w' h => HN1.out W e w' h))
                go_upto_region 12 with fail
                go_cut [27, 28] (fun v e wx => e = .int .i64 g1 ∧ SpBox W2 s1 nw1 n1 wd1 F1 v wx)
                case first => as_aux_lemma =>
                  have y0d : W2.drew.cell? ⟨R.heap.size, 0, none⟩ = some (.int .i64 s) := y0
                  have y0a : (W2.alloc (.cells #[.int .i64 0, .slice none 0 0, .slice none 0 0] 25)).drew.cell? ⟨R.heap.size, 0, none⟩ = some (.int .i64 s) := (((Below.refl _ W2).alloc (Nat.le_refl _) (.cells #[.int .i64 0, .slice none 0 0, .slice none 0 0] 25)).cell (p := ⟨R.heap.size, 0, none⟩) zbx).trans y0
                  have y1d : W2.drew.cell? ⟨R.heap.size, 1, none⟩ = some (.slice A nw c) := y1
                  have y1a : (W2.alloc (.cells #[.int .i64 0, .slice none 0 0, .slice none 0 0] 25)).drew.cell? ⟨R.heap.size, 1, none⟩ = some (.slice A nw c) := (((Below.refl _ W2).alloc (Nat.le_refl _) (.cells #[.int .i64 0, .slice none 0 0, .slice none 0 0] 25)).cell (p := ⟨R.heap.size, 1, none⟩) zbx).trans y1
                  have y2d : W2.drew.cell? ⟨R.heap.size, 2, none⟩ = some (.slice A' n c') := y2
                  have y2a : (W2.alloc (.cells #[.int .i64 0, .slice none 0 0, .slice none 0 0] 25)).drew.cell? ⟨R.heap.size, 2, none⟩ = some (.slice A' n c') := (((Below.refl _ W2).alloc (Nat.le_refl _) (.cells #[.int .i64 0, .slice none 0 0, .slice none 0 0] 25)).cell (p := ⟨R.heap.size, 2, none⟩) zbx).trans y2
                  have y3d : W2.drew.cell? ⟨b, 0, none⟩ = some (.int .i64 x) := y3
                  have y3a : (W2.alloc (.cells #[.int .i64 0, .slice none 0 0, .slice none 0 0] 25)).drew.cell? ⟨b, 0, none⟩ = some (.int .i64 x) := (((Below.refl _ W2).alloc (Nat.le_refl _) (.cells #[.int .i64 0, .slice none 0 0, .slice none 0 0] 25)).cell (p := ⟨b, 0, none⟩) zbW).trans y3
                  have y4d : W2.drew.cell? ⟨b, 1, none⟩ = some (.int .i64 y) := y4
                  have y4a : (W2.alloc (.cells #[.int .i64 0, .slice none 0 0, .slice none 0 0] 25)).drew.cell? ⟨b, 1, none⟩ = some (.int .i64 y) := (((Below.refl _ W2).alloc (Nat.le_refl _) (.cells #[.int .i64 0, .slice none 0 0, .slice none 0 0] 25)).cell (p := ⟨b, 1, none⟩) zbW).trans y4
                  have HBBH := Lib.hid (show Blk (W2.alloc (.cells #[.int .i64 0, .slice none 0 0, .slice none 0 0] 25)).drew W2.heap.size 25 #[.int .i64 0, .slice none 0 0, .slice none 0 0] from Blk.new _ _ _)
                  have HUAH := Lib.hid (show Below W2.heap.size W2 (W2.alloc (.cells #[.int .i64 0, .slice none 0 0, .slice none 0 0] 25)).drew from ((Below.refl _ _).alloc (Nat.le_refl _) _).drew)
                  have HUDH := Lib.hid (show Below W2.heap.size W2 W2.drew from (Below.refl _ _).drew)
                  go_region_held3 (fun w' => w'.cell? ⟨R.heap.size, 0, none⟩ = some (.int .i64 s) ∧ w'.cell? ⟨R.heap.size, 1, none⟩ = some (.slice A nw c) ∧ w'.cell? ⟨R.heap.size, 2, none⟩ = some (.slice A' n c') ∧ w'.cell? ⟨b, 0, none⟩ = some (.int .i64 x) ∧ w'.cell? ⟨b, 1, none⟩ = some (.int .i64 y))
                    (first | (with_reducible exact ⟨y0d, y1d, y2d, y3d, y4d⟩) | (with_reducible exact ⟨u0, u1, u2, u3, u4⟩) | (with_reducible exact ⟨y0a, y1a, y2a, y3a, y4a⟩) | (with_reducible exact ⟨(cell_far3 (Nat.ne_of_lt zbx) _ _ _).trans u0, (cell_far3 (Nat.ne_of_lt zbx) _ _ _).trans u1, (cell_far3 (Nat.ne_of_lt zbx) _ _ _).trans u2, (cell_far3 (Nat.ne_of_lt zbW) _ _ _).trans u3, (cell_far3 (Nat.ne_of_lt zbW) _ _ _).trans u4⟩) | go_keep)
                    (first
                      | (go_at_call 26; refine (N.out _ (by first | (with_reducible exact HUDH.out) | (with_reducible exact HUAH.out))).mono ?_; rintro e wn ⟨RA, rc, RA', rc', rfl, ho, ht, hb⟩; have u0 : wn.cell? ⟨R.heap.size, 0, none⟩ = some (.int .i64 s) := (hb.cell (p := ⟨R.heap.size, 0, none⟩) (by simp; omega)).trans (by first | (with_reducible exact y0d) | (with_reducible exact y0a)); have u1 : wn.cell? ⟨R.heap.size, 1, none⟩ = some (.slice A nw c) := (hb.cell (p := ⟨R.heap.size, 1, none⟩) (by simp; omega)).trans (by first | (with_reducible exact y1d) | (with_reducible exact y1a)); have u2 : wn.cell? ⟨R.heap.size, 2, none⟩ = some (.slice A' n c') := (hb.cell (p := ⟨R.heap.size, 2, none⟩) (by simp; omega)).trans (by first | (with_reducible exact y2d) | (with_reducible exact y2a)); have u3 : wn.cell? ⟨b, 0, none⟩ = some (.int .i64 x) := (hb.cell (p := ⟨b, 0, none⟩) (by simp; omega)).trans (by first | (with_reducible exact y3d) | (with_reducible exact y3a)); have u4 : wn.cell? ⟨b, 1, none⟩ = some (.int .i64 y) := (hb.cell (p := ⟨b, 1, none⟩) (by simp; omega)).trans (by first | (with_reducible exact y4d) | (with_reducible exact y4a)); (try have bb : Blk wn W2.heap.size 25 #[.int .i64 0, .slice none 0 0, .slice none 0 0] := (by with_reducible exact HBBH.out.next hb)); (try have bz := bb.lt); (try have t0 := bb.cell 0); (try have t1 := bb.cell 1); (try have t2 := bb.cell 2); (try have t3 := bb.frozen 0); (try have t4 := bb.frozen 1); (try have t5 := bb.frozen 2); (try simp at t0 t1 t2)))
                  all_goals
                    first
                    | (have HBX := Lib.hid (spbox_early (s := s1) (Nat.le_refl _) HUAH.out hb bb (by simp) rfl ho ht); clear hb ho ht bb t0 t1 t2 t3 t4 t5; go_wp2; go_meet; exact ⟨rfl, HBX.out⟩)
                    | (have HBX := Lib.hid (spbox_late (s := s1) HUDH.out hb ho ht); clear hb ho ht; go_wp2; go_meet; exact ⟨rfl, HBX.out⟩)
                case rest =>
                  obtain ⟨W3, rfl⟩ : ∃ W3, W3 = wc := ⟨_, rfl⟩
                  obtain ⟨rfl, t27, B1, k1, B1', k1', rfl, hx1, ha1, ht1, hb1, hz1⟩ := hcut
                  have E3 := Lib.hid (E2.out.next hb1)
                  have HA3 := Lib.hid (HA2.out.next hb1)
                  have HT3 := Lib.hid (HT2.out.next hb1)
                  have K3 := Lib.hid (below_next K2.out (Nat.le_refl _) hb1)
                  have HX1 := Lib.hid hx1
                  have HAX := Lib.hid ha1
                  have HTX := Lib.hid ht1
                  have hP27 : P.heap.size ≤ t27 := by have := K2.out.size; omega
                  have hx27 : R.heap.size ≠ t27 := by omega
                  have hb27 : b ≠ t27 := by omega
                  clear y0 y1 y2 y3 y4 zbx zbW hx1 ha1 ht1 hb1 hz1 K2 HA2 HT2 E2 N
                  obtain ⟨y0, y1, y2, y3, y4, zbx, zbW⟩ := E3.out
                  have N := Lib.hid (show ∀ W, Below W3.heap.size W3 W → Calls Try.prog 27 #[.agg #[.int .i64 s, .slice A nw c, .slice A' n c'], .int .i64 x, .int .i64 y, .int .u64 v] W (GivesS8 s1 nw1 n1 wd1 F1 g1 W) from
                    fun W hW => (refSetRef_any s A A' nw c n c' wd F x y v W (HA3.out.next hW) (HT3.out.next hW) HU64.out).mono (fun e w' h => HN1.out W e w' h))
                  clear HN1
                  go_upto_region 13 with fail
                  go_cut [29, 30] (fun v e wx => e = .int .i64 g1 ∧ SpBox W3 s1 nw1 n1 wd1 F1 v wx)
                  case first => as_aux_lemma =>
                    have y0d : W3.drew.cell? ⟨R.heap.size, 0, none⟩ = some (.int .i64 s) := y0
                    have y0a : (W3.alloc (.cells #[.int .i64 0, .slice none 0 0, .slice none 0 0] 25)).drew.cell? ⟨R.heap.size, 0, none⟩ = some (.int .i64 s) := (((Below.refl _ W3).alloc (Nat.le_refl _) (.cells #[.int .i64 0, .slice none 0 0, .slice none 0 0] 25)).cell (p := ⟨R.heap.size, 0, none⟩) zbx).trans y0
                    have y1d : W3.drew.cell? ⟨R.heap.size, 1, none⟩ = some (.slice A nw c) := y1
                    have y1a : (W3.alloc (.cells #[.int .i64 0, .slice none 0 0, .slice none 0 0] 25)).drew.cell? ⟨R.heap.size, 1, none⟩ = some (.slice A nw c) := (((Below.refl _ W3).alloc (Nat.le_refl _) (.cells #[.int .i64 0, .slice none 0 0, .slice none 0 0] 25)).cell (p := ⟨R.heap.size, 1, none⟩) zbx).trans y1
                    have y2d : W3.drew.cell? ⟨R.heap.size, 2, none⟩ = some (.slice A' n c') := y2
                    have y2a : (W3.alloc (.cells #[.int .i64 0, .slice none 0 0, .slice none 0 0] 25)).drew.cell? ⟨R.heap.size, 2, none⟩ = some (.slice A' n c') := (((Below.refl _ W3).alloc (Nat.le_refl _) (.cells #[.int .i64 0, .slice none 0 0, .slice none 0 0] 25)).cell (p := ⟨R.heap.size, 2, none⟩) zbx).trans y2
                    have y3d : W3.drew.cell? ⟨b, 0, none⟩ = some (.int .i64 x) := y3
                    have y3a : (W3.alloc (.cells #[.int .i64 0, .slice none 0 0, .slice none 0 0] 25)).drew.cell? ⟨b, 0, none⟩ = some (.int .i64 x) := (((Below.refl _ W3).alloc (Nat.le_refl _) (.cells #[.int .i64 0, .slice none 0 0, .slice none 0 0] 25)).cell (p := ⟨b, 0, none⟩) zbW).trans y3
                    have y4d : W3.drew.cell? ⟨b, 1, none⟩ = some (.int .i64 y) := y4
                    have y4a : (W3.alloc (.cells #[.int .i64 0, .slice none 0 0, .slice none 0 0] 25)).drew.cell? ⟨b, 1, none⟩ = some (.int .i64 y) := (((Below.refl _ W3).alloc (Nat.le_refl _) (.cells #[.int .i64 0, .slice none 0 0, .slice none 0 0] 25)).cell (p := ⟨b, 1, none⟩) zbW).trans y4
                    have HBBH := Lib.hid (show Blk (W3.alloc (.cells #[.int .i64 0, .slice none 0 0, .slice none 0 0] 25)).drew W3.heap.size 25 #[.int .i64 0, .slice none 0 0, .slice none 0 0] from Blk.new _ _ _)
                    have HUAH := Lib.hid (show Below W3.heap.size W3 (W3.alloc (.cells #[.int .i64 0, .slice none 0 0, .slice none 0 0] 25)).drew from ((Below.refl _ _).alloc (Nat.le_refl _) _).drew)
                    have HUDH := Lib.hid (show Below W3.heap.size W3 W3.drew from (Below.refl _ _).drew)
                    go_region_held3 (fun w' => w'.cell? ⟨R.heap.size, 0, none⟩ = some (.int .i64 s) ∧ w'.cell? ⟨R.heap.size, 1, none⟩ = some (.slice A nw c) ∧ w'.cell? ⟨R.heap.size, 2, none⟩ = some (.slice A' n c') ∧ w'.cell? ⟨b, 0, none⟩ = some (.int .i64 x) ∧ w'.cell? ⟨b, 1, none⟩ = some (.int .i64 y))
                      (first | (with_reducible exact ⟨y0d, y1d, y2d, y3d, y4d⟩) | (with_reducible exact ⟨u0, u1, u2, u3, u4⟩) | (with_reducible exact ⟨y0a, y1a, y2a, y3a, y4a⟩) | (with_reducible exact ⟨(cell_far3 (Nat.ne_of_lt zbx) _ _ _).trans u0, (cell_far3 (Nat.ne_of_lt zbx) _ _ _).trans u1, (cell_far3 (Nat.ne_of_lt zbx) _ _ _).trans u2, (cell_far3 (Nat.ne_of_lt zbW) _ _ _).trans u3, (cell_far3 (Nat.ne_of_lt zbW) _ _ _).trans u4⟩) | go_keep)
                      (first
                        | (go_at_call 27; refine (N.out _ (by first | (with_reducible exact HUDH.out) | (with_reducible exact HUAH.out))).mono ?_; rintro e wn ⟨RA, rc, RA', rc', rfl, ho, ht, hb⟩; have u0 : wn.cell? ⟨R.heap.size, 0, none⟩ = some (.int .i64 s) := (hb.cell (p := ⟨R.heap.size, 0, none⟩) (by simp; omega)).trans (by first | (with_reducible exact y0d) | (with_reducible exact y0a)); have u1 : wn.cell? ⟨R.heap.size, 1, none⟩ = some (.slice A nw c) := (hb.cell (p := ⟨R.heap.size, 1, none⟩) (by simp; omega)).trans (by first | (with_reducible exact y1d) | (with_reducible exact y1a)); have u2 : wn.cell? ⟨R.heap.size, 2, none⟩ = some (.slice A' n c') := (hb.cell (p := ⟨R.heap.size, 2, none⟩) (by simp; omega)).trans (by first | (with_reducible exact y2d) | (with_reducible exact y2a)); have u3 : wn.cell? ⟨b, 0, none⟩ = some (.int .i64 x) := (hb.cell (p := ⟨b, 0, none⟩) (by simp; omega)).trans (by first | (with_reducible exact y3d) | (with_reducible exact y3a)); have u4 : wn.cell? ⟨b, 1, none⟩ = some (.int .i64 y) := (hb.cell (p := ⟨b, 1, none⟩) (by simp; omega)).trans (by first | (with_reducible exact y4d) | (with_reducible exact y4a)); (try have bb : Blk wn W3.heap.size 25 #[.int .i64 0, .slice none 0 0, .slice none 0 0] := (by with_reducible exact HBBH.out.next hb)); (try have bz := bb.lt); (try have t0 := bb.cell 0); (try have t1 := bb.cell 1); (try have t2 := bb.cell 2); (try have t3 := bb.frozen 0); (try have t4 := bb.frozen 1); (try have t5 := bb.frozen 2); (try simp at t0 t1 t2)))
                    all_goals
                      first
                      | (have HBX := Lib.hid (spbox_early (s := s1) (Nat.le_refl _) HUAH.out hb bb (by simp) rfl ho ht); clear hb ho ht bb t0 t1 t2 t3 t4 t5; go_wp2; go_meet; exact ⟨rfl, HBX.out⟩)
                      | (have HBX := Lib.hid (spbox_late (s := s1) HUDH.out hb ho ht); clear hb ho ht; go_wp2; go_meet; exact ⟨rfl, HBX.out⟩)
                  case rest =>
                    obtain ⟨W4, rfl⟩ : ∃ W4, W4 = wc := ⟨_, rfl⟩
                    obtain ⟨rfl, t29, B2, k2, B2', k2', rfl, hx2, ha2, ht2, hb2, hz2⟩ := hcut
                    have z27 : t27 < W3.heap.size := HX1.out.lt
                    have E4 := Lib.hid (E3.out.next hb2)
                    have HA4 := Lib.hid (HA3.out.next hb2)
                    have HT4 := Lib.hid (HT3.out.next hb2)
                    have K4 := Lib.hid (below_next K3.out (Nat.le_refl _) hb2)
                    have HX1' := HX1.out.next hb2
                    have HAX' := Lib.hid (HAX.out.next hb2)
                    have HTX' := Lib.hid (HTX.out.next hb2)
                    have HAY := Lib.hid ha2
                    have HTY := Lib.hid ht2
                    have hP29 : P.heap.size ≤ t29 := by have := K3.out.size; omega
                    have hx29 : R.heap.size ≠ t29 := by omega
                    have hb29 : b ≠ t29 := by omega
                    have h2927 : t29 ≠ t27 := by omega
                    have HBT := Lib.hid HX1'
                    have HBU := Lib.hid hx2
                    have r0 := HX1'.cell 0
                    have r1 := HX1'.cell 1
                    have r2 := HX1'.cell 2
                    have rz := HX1'.lt
                    have q0 := hx2.cell 0
                    have q1 := hx2.cell 1
                    have q2 := hx2.cell 2
                    have qz := hx2.lt
                    simp at r0 r1 r2 q0 q1 q2
                    clear y0 y1 y2 y3 y4 zbx zbW ha2 ht2 hb2 hz2 K3 HA3 HT3 E3 N HX1 HX1' HAX HTX hx2 z27
                    go_upto_region 16 with (go_at_call 18; refine (sameSp_yes s1 B1 B1' B2 B2' nw1 k1 k2 n1 k1' k2' wd1 F1 W4 HAX'.out HAY.out HTX'.out HTY.out hnw1 hn1).mono ?_; rintro e W5 ⟨rfl, hb⟩)
                    have E5 := Lib.hid (E4.out.next hb)
                    have HA5 := Lib.hid (HA4.out.next hb)
                    have HT5 := Lib.hid (HT4.out.next hb)
                    have K5 := Lib.hid (below_next K4.out (Nat.le_refl _) hb)
                    have HBT5 := Lib.hid (HBT.out.next hb)
                    have HBU5 := Lib.hid (HBU.out.next hb)
                    clear hb r0 r1 r2 rz q0 q1 q2 qz E4 HA4 HT4 K4 HBT HBU HAX' HTX' HAY HTY
                    as_aux_lemma =>
                      obtain ⟨x0, x1, x2, x3, x4, zx, zt⟩ := E5.out
                      have E5d : Hid (El8 W5.drew R.heap.size b s (.slice A nw c) (.slice A' n c') x y) := E5.out
                      have HAD5 : Hid (Arr W5.drew W5.drew.heap.size A nw c wd) := HA5.out
                      have HTD5 : Hid (Tab W5.drew W5.drew.heap.size A' n c' F) := HT5.out
                      go_wp2_with fail
                      go_region_held3 (fun w' => w'.cell? ⟨R.heap.size, 0, none⟩ = some (.int .i64 s) ∧ w'.cell? ⟨R.heap.size, 1, none⟩ = some (.slice A nw c) ∧ w'.cell? ⟨R.heap.size, 2, none⟩ = some (.slice A' n c') ∧ w'.cell? ⟨b, 0, none⟩ = some (.int .i64 x) ∧ w'.cell? ⟨b, 1, none⟩ = some (.int .i64 y))
                        (first | exact ⟨x0, x1, x2, x3, x4⟩ | exact ⟨u0, u1, u2, u3, u4⟩)
                        (first | (go_at_call 28; refine (objData_any s A A' nw c n c' wd F x y _ HAD5.out HTD5.out HU64.out hx.1 hx.2).mono ?_; rintro e W6 ⟨rfl, hb⟩; rw [← HV2.out, ← HE2.out]; obtain ⟨u0, u1, u2, u3, u4, _, _⟩ := E5d.out.next hb))
                      have E6 := Lib.hid (E5d.out.next hb)
                      have HA6 := Lib.hid (HAD5.out.next hb)
                      have HT6 := Lib.hid (HTD5.out.next hb)
                      have K6 := Lib.hid (below_next K5.out.drew (Nat.le_refl _) hb)
                      have HBT6 := Lib.hid ((show Blk W5.drew t27 25 _ from HBT5.out).next hb)
                      have HBU6 := Lib.hid ((show Blk W5.drew t29 25 _ from HBU5.out).next hb)
                      clear HBT5 HBU5
                      clear x0 x1 x2 x3 x4 zx zt u0 u1 u2 u3 u4 hb E5 E5d K5 HA5 HT5 HAD5 HTD5
                      obtain ⟨x0, x1, x2, x3, x4, zx, zt⟩ := E6.out
                      have E6d : Hid (El8 W6.drew R.heap.size b s (.slice A nw c) (.slice A' n c') x y) := E6.out
                      have HAD6 : Hid (Arr W6.drew W6.drew.heap.size A nw c wd) := HA6.out
                      have HTD6 : Hid (Tab W6.drew W6.drew.heap.size A' n c' F) := HT6.out
                      go_wp2_with fail
                      go_region_held3 (fun w' => w'.cell? ⟨R.heap.size, 0, none⟩ = some (.int .i64 s) ∧ w'.cell? ⟨R.heap.size, 1, none⟩ = some (.slice A nw c) ∧ w'.cell? ⟨R.heap.size, 2, none⟩ = some (.slice A' n c') ∧ w'.cell? ⟨b, 0, none⟩ = some (.int .i64 x) ∧ w'.cell? ⟨b, 1, none⟩ = some (.int .i64 y))
                        (first | exact ⟨x0, x1, x2, x3, x4⟩ | exact ⟨u0, u1, u2, u3, u4⟩)
                        (first | (go_at_call 29; refine (refData_any s A A' nw c n c' wd F x y _ HAD6.out HTD6.out HU64.out).mono ?_; rintro e W7 ⟨rfl, hb⟩; rw [← HV2.out, ← HE2.out]; obtain ⟨u0, u1, u2, u3, u4, _, _⟩ := E6d.out.next hb))
                      have E7 := Lib.hid (E6d.out.next hb)
                      have HA7 := Lib.hid (HAD6.out.next hb)
                      have HT7 := Lib.hid (HTD6.out.next hb)
                      have K7 := Lib.hid (below_next K6.out.drew (Nat.le_refl _) hb)
                      have HBT7 := Lib.hid ((show Blk W6.drew t27 25 _ from HBT6.out).next hb)
                      have HBU7 := Lib.hid ((show Blk W6.drew t29 25 _ from HBU6.out).next hb)
                      clear HBT6 HBU6
                      clear x0 x1 x2 x3 x4 zx zt u0 u1 u2 u3 u4 hb E6 E6d K6 HA6 HT6 HAD6 HTD6
                      obtain ⟨y0, y1, y2, y3, y4, zbx, zbW⟩ := E7.out
                      have N := Lib.hid (show ∀ W, Below W7.heap.size W7 W → Calls Try.prog 30 #[.agg #[.int .i64 s, .slice A nw c, .slice A' n c'], .int .i64 x, .int .i64 y, .int .u64 v] W (GivesS8 s2 nw2 n2 wd2 F2 g2 W) from
                        fun W hW => (objSetData_any s A A' nw c n c' wd F x y v W (HA7.out.next hW) (HT7.out.next hW) HU64.out hx.1 hx.2).mono (fun e w' h => HN2.out W e w' h))
                      have HTB := Lib.hid HBT7.out
                      have ztb : t27 < W7.heap.size := HTB.out.lt
                      go_upto_region 18 with fail
                      go_cut [28] (fun e wx => e = .int .i64 g2 ∧ SpIn W7 t27 s2 nw2 n2 wd2 F2 wx)
                      case first => as_aux_lemma =>
                        have y0d : W7.drew.cell? ⟨R.heap.size, 0, none⟩ = some (.int .i64 s) := y0
                        have y1d : W7.drew.cell? ⟨R.heap.size, 1, none⟩ = some (.slice A nw c) := y1
                        have y2d : W7.drew.cell? ⟨R.heap.size, 2, none⟩ = some (.slice A' n c') := y2
                        have y3d : W7.drew.cell? ⟨b, 0, none⟩ = some (.int .i64 x) := y3
                        have y4d : W7.drew.cell? ⟨b, 1, none⟩ = some (.int .i64 y) := y4
                        have HUDH := Lib.hid (show Below W7.heap.size W7 W7.drew from (Below.refl _ _).drew)
                        have HTBD := Lib.hid (show Blk W7.drew t27 25 _ from HTB.out)
                        go_region_held3 (fun w' => w'.cell? ⟨R.heap.size, 0, none⟩ = some (.int .i64 s) ∧ w'.cell? ⟨R.heap.size, 1, none⟩ = some (.slice A nw c) ∧ w'.cell? ⟨R.heap.size, 2, none⟩ = some (.slice A' n c') ∧ w'.cell? ⟨b, 0, none⟩ = some (.int .i64 x) ∧ w'.cell? ⟨b, 1, none⟩ = some (.int .i64 y))
                          (first | (with_reducible exact ⟨y0d, y1d, y2d, y3d, y4d⟩) | (with_reducible exact ⟨u0, u1, u2, u3, u4⟩) | (with_reducible exact ⟨(cell_far3 hx27 _ _ _).trans u0, (cell_far3 hx27 _ _ _).trans u1, (cell_far3 hx27 _ _ _).trans u2, (cell_far3 hb27 _ _ _).trans u3, (cell_far3 hb27 _ _ _).trans u4⟩) | go_keep)
                          (first
                            | (go_at_call 30; refine (N.out _ HUDH.out).mono ?_; rintro e wn ⟨RA, rc, RA', rc', rfl, ho, ht, hb⟩; have u0 : wn.cell? ⟨R.heap.size, 0, none⟩ = some (.int .i64 s) := (hb.cell (p := ⟨R.heap.size, 0, none⟩) (by simp; omega)).trans y0d; have u1 : wn.cell? ⟨R.heap.size, 1, none⟩ = some (.slice A nw c) := (hb.cell (p := ⟨R.heap.size, 1, none⟩) (by simp; omega)).trans y1d; have u2 : wn.cell? ⟨R.heap.size, 2, none⟩ = some (.slice A' n c') := (hb.cell (p := ⟨R.heap.size, 2, none⟩) (by simp; omega)).trans y2d; have u3 : wn.cell? ⟨b, 0, none⟩ = some (.int .i64 x) := (hb.cell (p := ⟨b, 0, none⟩) (by simp; omega)).trans y3d; have u4 : wn.cell? ⟨b, 1, none⟩ = some (.int .i64 y) := (hb.cell (p := ⟨b, 1, none⟩) (by simp; omega)).trans y4d; have bb := HTBD.out.next hb; have bz := bb.lt; have t0 := bb.cell 0; have t1 := bb.cell 1; have t2 := bb.cell 2; have t3 := bb.frozen 0; have t4 := bb.frozen 1; have t5 := bb.frozen 2; simp at t0 t1 t2))
                        have HBX := Lib.hid (spin_put (s := s2) HUDH.out hb bb ztb ho ht)
                        clear hb ho ht bb t0 t1 t2 t3 t4 t5
                        go_wp2
                        go_meet
                        exact ⟨rfl, HBX.out⟩
                      case rest =>
                        obtain ⟨W8, rfl⟩ : ∃ W8, W8 = wc := ⟨_, rfl⟩
                        obtain ⟨rfl, B3, k3, B3', k3', hx3, ha3, ht3, hb3, hk3⟩ := hcut
                        have hP7 := K7.out.size
                        have hR27 : P.heap.size ≤ t27 := hP27
                        have hb3R : Below P.heap.size W7 W8 := hb3 P.heap.size hR27 hP7
                        have E8 := Lib.hid (E7.out.turn hk3 hx27 hb27 hb3R.size)
                        have HBU8 := Lib.hid ((show Blk W8 t29 25 _ from (hk3 _ HBU7.out.lt h2927).trans HBU7.out))
                        have K8 := Lib.hid (show Below P.heap.size P W8 from K7.out.trans hb3R)
                        have HA8 := Lib.hid ((HAP.out.below K8.out).more K8.out.size)
                        have HT8 := Lib.hid ((HTP.out.below K8.out).more K8.out.size)
                        have HTD := Lib.hid hx3
                        have HAD := Lib.hid ha3
                        have HTDT := Lib.hid ht3
                        clear y0 y1 y2 y3 y4 zbx zbW hx3 ha3 ht3 hb3 hk3 hb3R hP7 hR27 K7 E7 HA7 HT7 HBT7 HBU7 HTB ztb N
                        obtain ⟨y0, y1, y2, y3, y4, zbx, zbW⟩ := E8.out
                        have N := Lib.hid (show ∀ W, Below W8.heap.size W8 W → Calls Try.prog 31 #[.agg #[.int .i64 s, .slice A nw c, .slice A' n c'], .int .i64 x, .int .i64 y, .int .u64 v] W (GivesS8 s2 nw2 n2 wd2 F2 g2 W) from
                          fun W hW => (refSetData_any s A A' nw c n c' wd F x y v W (HA8.out.next hW) (HT8.out.next hW) HU64.out).mono (fun e w' h => HN2.out W e w' h))
                        have HTB := Lib.hid HBU8.out
                        have ztb : t29 < W8.heap.size := HTB.out.lt
                        clear HN2
                        go_upto_region 19 with fail
                        go_cut [30] (fun e wx => e = .int .i64 g2 ∧ SpIn W8 t29 s2 nw2 n2 wd2 F2 wx)
                        case first => as_aux_lemma =>
                          have y0d : W8.drew.cell? ⟨R.heap.size, 0, none⟩ = some (.int .i64 s) := y0
                          have y1d : W8.drew.cell? ⟨R.heap.size, 1, none⟩ = some (.slice A nw c) := y1
                          have y2d : W8.drew.cell? ⟨R.heap.size, 2, none⟩ = some (.slice A' n c') := y2
                          have y3d : W8.drew.cell? ⟨b, 0, none⟩ = some (.int .i64 x) := y3
                          have y4d : W8.drew.cell? ⟨b, 1, none⟩ = some (.int .i64 y) := y4
                          have HUDH := Lib.hid (show Below W8.heap.size W8 W8.drew from (Below.refl _ _).drew)
                          have HTBD := Lib.hid (show Blk W8.drew t29 25 _ from HTB.out)
                          go_region_held3 (fun w' => w'.cell? ⟨R.heap.size, 0, none⟩ = some (.int .i64 s) ∧ w'.cell? ⟨R.heap.size, 1, none⟩ = some (.slice A nw c) ∧ w'.cell? ⟨R.heap.size, 2, none⟩ = some (.slice A' n c') ∧ w'.cell? ⟨b, 0, none⟩ = some (.int .i64 x) ∧ w'.cell? ⟨b, 1, none⟩ = some (.int .i64 y))
                            (first | (with_reducible exact ⟨y0d, y1d, y2d, y3d, y4d⟩) | (with_reducible exact ⟨u0, u1, u2, u3, u4⟩) | (with_reducible exact ⟨(cell_far3 hx29 _ _ _).trans u0, (cell_far3 hx29 _ _ _).trans u1, (cell_far3 hx29 _ _ _).trans u2, (cell_far3 hb29 _ _ _).trans u3, (cell_far3 hb29 _ _ _).trans u4⟩) | go_keep)
                            (first
                              | (go_at_call 31; refine (N.out _ HUDH.out).mono ?_; rintro e wn ⟨RA, rc, RA', rc', rfl, ho, ht, hb⟩; have u0 : wn.cell? ⟨R.heap.size, 0, none⟩ = some (.int .i64 s) := (hb.cell (p := ⟨R.heap.size, 0, none⟩) (by simp; omega)).trans y0d; have u1 : wn.cell? ⟨R.heap.size, 1, none⟩ = some (.slice A nw c) := (hb.cell (p := ⟨R.heap.size, 1, none⟩) (by simp; omega)).trans y1d; have u2 : wn.cell? ⟨R.heap.size, 2, none⟩ = some (.slice A' n c') := (hb.cell (p := ⟨R.heap.size, 2, none⟩) (by simp; omega)).trans y2d; have u3 : wn.cell? ⟨b, 0, none⟩ = some (.int .i64 x) := (hb.cell (p := ⟨b, 0, none⟩) (by simp; omega)).trans y3d; have u4 : wn.cell? ⟨b, 1, none⟩ = some (.int .i64 y) := (hb.cell (p := ⟨b, 1, none⟩) (by simp; omega)).trans y4d; have bb := HTBD.out.next hb; have bz := bb.lt; have t0 := bb.cell 0; have t1 := bb.cell 1; have t2 := bb.cell 2; have t3 := bb.frozen 0; have t4 := bb.frozen 1; have t5 := bb.frozen 2; simp at t0 t1 t2))
                          have HBX := Lib.hid (spin_put (s := s2) HUDH.out hb bb ztb ho ht)
                          clear hb ho ht bb t0 t1 t2 t3 t4 t5
                          go_wp2
                          go_meet
                          exact ⟨rfl, HBX.out⟩
                        case rest =>
                          obtain ⟨W9, rfl⟩ : ∃ W9, W9 = wc := ⟨_, rfl⟩
                          obtain ⟨rfl, B4, k4, B4', k4', hx4, ha4, ht4, hb4, hk4⟩ := hcut
                          have hP8 := K8.out.size
                          have hb4R : Below P.heap.size W8 W9 := hb4 P.heap.size hP29 hP8
                          have HA9 := Lib.hid (HAD.out.box_turn HTB.out hk4 hb4R.size)
                          have HT9 := Lib.hid (HTDT.out.box_turn HTB.out hk4 hb4R.size)
                          have B9 : Blk W9 t27 25 #[.int .i64 s2, .slice B3 nw2 k3, .slice B3' n2 k3'] := (hk4 _ HTD.out.lt (fun e => h2927 e.symm)).trans HTD.out
                          have HA6' := Lib.hid ha4
                          have HT6' := Lib.hid ht4
                          have K9 := Lib.hid (show Below P.heap.size P W9 from K8.out.trans hb4R)
                          have r0 := B9.cell 0
                          have r1 := B9.cell 1
                          have r2 := B9.cell 2
                          have rz := B9.lt
                          have q0 := hx4.cell 0
                          have q1 := hx4.cell 1
                          have q2 := hx4.cell 2
                          have qz := hx4.lt
                          simp at r0 r1 r2 q0 q1 q2
                          clear hx4 ha4 ht4 hb4 hk4 hb4R hP8 B9 y0 y1 y2 y3 y4 zbx zbW ztb N
                          go_wp2_with (go_at_call 18; refine (sameSp_yes s2 B3 B3' B4 B4' nw2 k3 k4 n2 k3' k4' wd2 F2 W9 HA9.out HA6'.out HT9.out HT6'.out hnw2 hn2).mono ?_; rintro e W10 ⟨rfl, hb10⟩)
                          exact ⟨⟨l + 1, by omega, by go_num, below_next K9.out (Nat.le_refl _) hb10⟩, by simp [intOf]; omega⟩
              · obtain rfl : l = 3 := by omega
                have K0 := Lib.hid (below_next HBP.out (Nat.le_refl _) hb)
                clear hb
                go_wp2_with fail
                exact ⟨⟨j + 1, by omega, by go_num, K0.out⟩, by simp [intOf]; omega⟩
        · obtain rfl : j = 3 := by omega
          have HB8 := Lib.hid (below_next HBV.out (Nat.le_refl _) (below_next HCV.out (Nat.le_refl _) hb))
          clear hb
          go_wp2_with (go_at_call 10; refine (awake8_any _).mono ?_; rintro e w9 ⟨rfl, hb9⟩)
          go_ret
          exact ⟨rfl, below_next HB8.out (Nat.le_refl _) hb9⟩
end Go.Proofs.Ytfjdafnejhgijaa
