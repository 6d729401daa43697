/-
  The walk of ObjectMakes. (Made by mkraw-s8.py.)
-/
import Derived.Test.YtfjdafnejhgijaaRaw
import Derived.Deep.RegionHeld3
import Derived.Deep.DeepCutAuto
import Derived.Deep.CutBlock
namespace Go.Proofs.Ytfjdafnejhgijaa
open Go.RowKit
set_option maxRecDepth 100000
set_option linter.unusedVariables false

set_option maxHeartbeats 16000000 in
theorem walkMakes8 (s : Int) (A A' : Option Addr) (nw c n c' : Nat) (wd0 : Nat → Int) (F0' : Nat → Fr) (Al : Option Addr) (nl cl : Nat) (a refs data what at_ by_ : Int) (w : World) (hA : Arr w w.heap.size A nw c wd0) (hT : Tab w w.heap.size A' n c' F0') (hu0 : U64w nw wd0) (hL : ListP w w.heap.size Al nl cl)
    (a0 : -9223372036854775808 ≤ a) (a1 : a ≤ 9223372036854775807) (g0 : -9223372036854775808 ≤ refs) (g1 : refs ≤ 9223372036854775807) (f0 : -9223372036854775808 ≤ data) (f1 : data ≤ 9223372036854775807) (c0 : -9223372036854775808 ≤ what) (c1 : what ≤ 9223372036854775807) (d0 : -9223372036854775808 ≤ at_) (d1 : at_ ≤ 9223372036854775807) (e0 : -9223372036854775808 ≤ by_) (e1 : by_ ≤ 9223372036854775807) :
    Calls Try.prog 3 #[.agg #[.int .i64 s, .slice A nw c, .slice A' n c'], .slice Al nl cl, .int .i64 a, .int .i64 refs, .int .i64 data, .int .i64 what, .int .i64 at_, .int .i64 by_] w fun e w' => e = .returned (.bool true) ∧ Below w.heap.size w w' := by
  obtain ⟨U, hU⟩ : ∃ U, U = w.alloc (.cells #[.int .i64 s, .slice A nw c, .slice A' n c'] 25) := ⟨_, rfl⟩
  have BX := Lib.hid (show Blk U w.heap.size 25 #[.int .i64 s, .slice A nw c, .slice A' n c'] by rw [hU]; exact Blk.new _ _ _)
  have hbu : Below w.heap.size w U := by rw [hU]; exact (Below.refl _ _).alloc (Nat.le_refl _) _
  have HBU := Lib.hid hbu
  have HU := Lib.hid hU
  have HL := Lib.hid (hL.next hbu)
  have HA0 := Lib.hid hA
  have HT0 := Lib.hid hT
  have HU0 := Lib.hid hu0
  have hin_a : In8 a := ⟨a0, a1⟩
  have hin_r : In8 refs := ⟨g0, g1⟩
  have hin_d : In8 data := ⟨f0, f1⟩
  clear hL hU hbu hA hT hu0
  go_enter Try.func3, Try.ntmps3
  go_wp2_with fail
  rw [← HU.out]
  refine (small_any s A A' nw c n c' U).mono ?_
  rintro e U1 ⟨rfl, hb⟩
  have BX1 := Lib.hid (BX.out.next hb)
  have HBU1 := Lib.hid (below_next HBU.out (Nat.le_refl _) hb)
  have HL1 := Lib.hid (HL.out.next hb)
  clear hb BX HBU HL HU
  obtain ⟨sm, hsm, hn⟩ : ∃ b, (decide (nw ≤ 3000) && decide (n ≤ 80)) = b ∧ (b = true → nw ≤ 3000 ∧ n ≤ 80) := ⟨_, rfl, by simp⟩
  rw [hsm]
  clear hsm
  rcases sm with _ | _
  · go_wp2_with (go_at_call 10; refine (awake8_any _).mono ?_; rintro e w6 ⟨rfl, b6⟩; have HB6 := Lib.hid b6; clear b6)
    go_ret
    exact ⟨rfl, below_next HBU1.out (Nat.le_refl _) HB6.out⟩
  · have hnb := hn rfl
    clear hn
    go_wp2_with fail
    refine (deck_any Al nl cl U1 HL1.out).mono ?_
    rintro e U2 ⟨rfl, hd, hb, hz⟩
    have HDK := Lib.hid hd
    have BX2 := Lib.hid (BX1.out.next hb)
    have HBU2 := Lib.hid (below_next HBU1.out (Nat.le_refl _) hb)
    have zz := BX1.out.lt
    clear hd hb BX1 HBU1 HL1
    go_wp2_with fail
    refine (space_any U1.heap.size U2 HDK.out).mono ?_
    rintro e U3 ⟨K, m, B, d, gb, d', wd, F, L, rfl, kk0, kk1, m0, m1, hoA, hoT, ⟨hvp, how, hu⟩, ⟨_, I, BI, hBI, hLR, hAll⟩, hG⟩
    have BX3 := Lib.hid (BX2.out.turn hG (by omega))
    have HBU3 := Lib.hid (below_turn HBU2.out hG (by omega))
    have HVP := Lib.hid hvp
    have HU64 := Lib.hid hu
    have HALL := Lib.hid hAll
    have hmk0 : 0 < m * 2 ^ K := Nat.mul_pos (by omega) (Nat.two_pow_pos K)
    have hmk1 : m * 2 ^ K ≤ 16384 := prod_le (by omega) (by omega)
    obtain ⟨mk, hmk⟩ : ∃ mk, mk = m * 2 ^ K := ⟨_, rfl⟩
    rw [← hmk] at hoA HVP HU64 hmk0 hmk1 ⊢
    obtain ⟨V, hV⟩ : ∃ V, V = U3.alloc (.cells #[.int .i64 K, .slice B mk d, .slice (some ⟨gb, 0, none⟩) m d'] 25) := ⟨_, rfl⟩
    have hbv : Below U3.heap.size U3 V := by rw [hV]; exact (Below.refl _ _).alloc (Nat.le_refl _) _
    obtain ⟨SB, hSB⟩ : ∃ b, b = U3.heap.size := ⟨_, rfl⟩
    have BY := Lib.hid (show Blk V SB 25 #[.int .i64 K, .slice B mk d, .slice (some ⟨gb, 0, none⟩) m d'] by rw [hV, hSB]; exact Blk.new _ _ _)
    have BX4 := Lib.hid (BX3.out.next hbv)
    have HBV := Lib.hid (below_next HBU3.out (Nat.le_refl _) hbv)
    have HR4 := Lib.hid (show YV8 V s A nw c A' n c' from ⟨wd0, F0', (HA0.out.below HBV.out).more HBV.out.size, (HT0.out.below HBV.out).more HBV.out.size, HU0.out⟩)
    have HSA := Lib.hid (hoA.arr.next hbv)
    have HST := Lib.hid (hoT.tab.next hbv)
    have HLV := Lib.hid (hLR.below hbv)
    have NR := Lib.hid (show ∀ (W : World) (y : Int), Below V.heap.size V W → In8 y → Calls Try.prog 14 #[.agg #[.int .i64 K, .slice B mk d, .slice (some ⟨gb, 0, none⟩) m d'], L, .int .i64 y] W (NearOut W) from fun W y h hy => near_any K B (some ⟨gb, 0, none⟩) mk d m d' wd F I BI U3.heap.size L y W (HSA.out.next h) (HST.out.next h) HVP.out HU64.out HALL.out (HLV.out.below h) hy.1 hy.2)
    have HVV := Lib.hid hV
    have HSB := Lib.hid hSB
    clear hV hSB hbv BX3 HBU3 HA0 HT0 HU0 hG BX2 HBU2 HDK hz hoA hoT hmk hvp how hu hLR hAll hBI HLV
    go_wp2_with fail
    rw [← HVV.out]
    try rw [← HSB.out]
    clear HVV HSB
    have p0 := BX4.out.cell 0
    have p1 := BX4.out.cell 1
    have p2 := BX4.out.cell 2
    have q0 := BY.out.cell 0
    have q1 := BY.out.cell 1
    have q2 := BY.out.cell 2
    simp at p0 p1 p2 q0 q1 q2
    have hc : Below V.heap.size V V.drew := (Below.refl _ _).drew
    have zx : w.heap.size < V.heap.size := BX4.out.lt
    have zy : SB < V.heap.size := BY.out.lt
    have v0 := HR4.out.next hc
    have v1 : YV8 V.drew K B mk d (some ⟨gb, 0, none⟩) m d' := ⟨_, _, HSA.out.next hc, HST.out.next hc, HU64.out⟩
    go_upto_region 4 with fail
    go_cut [44, 45, 46] (fun q l i wx => l = .int .i64 3 ∧ i = .int .i64 0 ∧ ∃ Q, q = .slice (some ⟨Q, 0, none⟩) 3 3 ∧ (∀ j, j < 3 → ZAt8 wx Q j) ∧ Q < wx.heap.size ∧ Below V.heap.size V wx)
    case first =>
      go_region_held3 (fun w' => w'.cell? ⟨w.heap.size, 0, none⟩ = some (.int .i64 s) ∧ w'.cell? ⟨w.heap.size, 1, none⟩ = some (.slice A nw c) ∧ w'.cell? ⟨w.heap.size, 2, none⟩ = some (.slice A' n c') ∧ w'.cell? ⟨SB, 0, none⟩ = some (.int .i64 K) ∧ w'.cell? ⟨SB, 1, none⟩ = some (.slice B mk d) ∧ w'.cell? ⟨SB, 2, none⟩ = some (.slice (some ⟨gb, 0, none⟩) m d'))
        (first | (with_reducible exact ⟨(hc.cell (p := ⟨_, 0, none⟩) zx).trans p0, (hc.cell (p := ⟨_, 1, none⟩) zx).trans p1, (hc.cell (p := ⟨_, 2, none⟩) zx).trans p2, (hc.cell (p := ⟨_, 0, none⟩) zy).trans q0, (hc.cell (p := ⟨_, 1, none⟩) zy).trans q1, (hc.cell (p := ⟨_, 2, none⟩) zy).trans q2⟩) | go_keep)
        (first
          | (go_at_call 13; (with_reducible show Calls _ _ #[_, .int .i64 what, _, _] _ _); refine (spoilt8_any K B (some ⟨gb, 0, none⟩) mk d m d' wd F what at_ by_ _ (HSA.out.next hc) (HST.out.next hc) (by omega) (by omega) (by omega) hmk0 c0 c1 d0 d1 e0 e1).mono ?_; rintro e wq ⟨k1, nw1, c1', g1, c1'', A1, wd1, F1, rfl, lo1, hi1, ho, ht, hb, hP⟩; have hc := below_next hc (Nat.le_refl _) hb; have v2 : YV8 wq k1 A1 nw1 c1' (some ⟨g1, 0, none⟩) m c1'' := ⟨_, _, ho.arr, ht.tab, hP HU64.out⟩; have v0 := v0.next hb; have v1 := v1.next hb))
      have Z := Lib.hid (zat8_3 hc v1 v0 v2 ⟨by omega, by omega⟩ ⟨by omega, by omega⟩ ⟨by omega, by omega⟩)
      clear hc v0 v1 v2
      go_wp2
      go_meet
      exact ⟨rfl, rfl, _, rfl, Z.out⟩
    case rest =>
      obtain ⟨C0, rfl⟩ : ∃ C0, C0 = wc := ⟨_, rfl⟩
      obtain ⟨rfl, rfl, Q, rfl, hZA, hQ, hB⟩ := hcut
      have HZA := Lib.hid hZA
      have HCV := Lib.hid hB
      clear hZA hB hc v0 v1 p0 p1 p2 q0 q1 q2 zx HR4 HSA HST BX4 hmk0 hnb c0 c1 d0 d1 e0 e1
      go_wp2_with fail
      go_loopw [46] (fun i wr => ∃ j : Nat, j ≤ 3 ∧ i = .int .i64 j ∧ Below C0.heap.size C0 wr) (fun i _ => 3 - (intOf i).toNat)
      case atStart => exact ⟨0, Nat.zero_le _, rfl, Below.refl _ _⟩
      case round =>
        obtain ⟨R, rfl⟩ : ∃ R, R = wr := ⟨_, rfl⟩
        obtain ⟨j, hj, rfl, hb⟩ := hrel
        by_cases hlt : j < 3
        · obtain ⟨s, A, nw, c, A', n, c', hbw, hbn, x0, x1, x2, hv⟩ := HZA.out j hlt
          have x0' := (hb.cell (p := ⟨Q, j * 3, none⟩) hQ).trans x0
          have x1' := (hb.cell (p := ⟨Q, j * 3 + 1, none⟩) hQ).trans x1
          have x2' := (hb.cell (p := ⟨Q, j * 3 + 2, none⟩) hQ).trans x2
          have zQ : Q < R.heap.size := Nat.lt_of_lt_of_le hQ hb.size
          obtain ⟨wd, F, hva, hvt, hu⟩ := hv.next hb
          have HU64 := Lib.hid hu
          have hj2 : 0 ≤ (j : Int) ∧ (j : Int) < 3 := by omega
          obtain ⟨P0, hP0⟩ : ∃ P, P = R.alloc (.cells #[.int .i64 s, .slice A nw c, .slice A' n c'] 25) := ⟨_, rfl⟩
          have BX := Lib.hid (show Blk P0 R.heap.size 25 #[.int .i64 s, .slice A nw c, .slice A' n c'] by rw [hP0]; exact Blk.new _ _ _)
          have hbp0 : Below R.heap.size R P0 := by rw [hP0]; exact (Below.refl _ _).alloc (Nat.le_refl _) _
          have hVP0 : Below V.heap.size V P0 := below_next (below_next HCV.out (Nat.le_refl _) hb) (Nat.le_refl _) hbp0
          have HVP0 := Lib.hid hVP0
          have hs0 : P0.heap.size = R.heap.size + 1 := by rw [hP0]; simp
          have HP0 := Lib.hid hP0
          have HVA := Lib.hid (hva.next hbp0)
          have HVT := Lib.hid (hvt.next hbp0)
          have HBP0 := Lib.hid (below_next hb (Nat.le_refl _) hbp0)
          have q0 := (hVP0.cell (p := ⟨SB, 0, none⟩) zy).trans (BY.out.cell 0)
          have q1 := (hVP0.cell (p := ⟨SB, 1, none⟩) zy).trans (BY.out.cell 1)
          have q2 := (hVP0.cell (p := ⟨SB, 2, none⟩) zy).trans (BY.out.cell 2)
          have qz : SB < P0.heap.size := Nat.lt_of_lt_of_le zy hVP0.size
          simp at q0 q1 q2
          clear hP0 hva hvt hu hv x0 x1 x2 hVP0 hbp0 hb hs0
          go_upto_region 7 with fail
          rw [← HP0.out]
          clear x0' x1' x2' zQ HP0
          obtain ⟨z5, hz5, z50, z51⟩ : ∃ z, refs % 5 = z ∧ 0 ≤ z ∧ z < 5 := ⟨_, rfl, by omega, by omega⟩
          have Hz5 := Lib.hid hz5
          clear hz5
          have hin_z5 : In8 z5 := ⟨by omega, by omega⟩
          clear z50 z51
          obtain ⟨z7, hz7, z70, z71⟩ : ∃ z, data % 7 = z ∧ 0 ≤ z ∧ z < 7 := ⟨_, rfl, by omega, by omega⟩
          have Hz7 := Lib.hid hz7
          clear hz7
          have hin_z7 : In8 z7 := ⟨by omega, by omega⟩
          clear z70 z71
          obtain ⟨z18, hz18, z180, z181⟩ : ∃ z, refs % 18 = z ∧ 0 ≤ z ∧ z < 18 := ⟨_, rfl, by omega, by omega⟩
          have Hz18 := Lib.hid hz18
          clear hz18
          have hin_z18 : In8 z18 := ⟨by omega, by omega⟩
          have hin_z18m : In8 (z18 - 1) := ⟨by omega, by omega⟩
          have wz18 : IntKind.i64.wrap (z18 - 1) = z18 - 1 := IntWalk.i64_in _ (by omega)
          clear z180 z181
          obtain ⟨z35, hz35, z350, z351⟩ : ∃ z, data % 35 = z ∧ 0 ≤ z ∧ z < 35 := ⟨_, rfl, by omega, by omega⟩
          have Hz35 := Lib.hid hz35
          clear hz35
          have hin_z35 : In8 z35 := ⟨by omega, by omega⟩
          have hin_z35m : In8 (z35 - 1) := ⟨by omega, by omega⟩
          have wz35 : IntKind.i64.wrap (z35 - 1) = z35 - 1 := IntWalk.i64_in _ (by omega)
          clear z350 z351
          have hp : Below P0.heap.size P0 P0.drew := (Below.refl _ _).drew
          have hP0 := HVP0.out
          have q0d : P0.drew.cell? ⟨SB, 0, none⟩ = some (.int .i64 K) := q0
          have q1d : P0.drew.cell? ⟨SB, 1, none⟩ = some (.slice B mk d) := q1
          have q2d : P0.drew.cell? ⟨SB, 2, none⟩ = some (.slice (some ⟨gb, 0, none⟩) m d') := q2
          go_cut [74, 75, 76] (fun v len i wx => len = .int .i64 3 ∧ i = .int .i64 0 ∧ ∃ Q, v = .slice (some ⟨Q, 0, none⟩) 3 3 ∧ Rows3 wx Q ∧ Below P0.heap.size P0 wx)
          case first => as_aux_lemma =>
            clear hj hj2 HBP0 HVA HVT BX HU64 HZA HBV HCV BY HVP HALL hlt hbw hbn
            go_region_held3 (fun w' => w'.cell? ⟨SB, 0, none⟩ = some (.int .i64 K) ∧ w'.cell? ⟨SB, 1, none⟩ = some (.slice B mk d) ∧ w'.cell? ⟨SB, 2, none⟩ = some (.slice (some ⟨gb, 0, none⟩) m d'))
              (first | (with_reducible exact ⟨q0d, q1d, q2d⟩) | (exact ⟨(Below.cell (p := ⟨_, 0, none⟩) (show Below P0.heap.size P0 _ by repeat (first | (with_reducible assumption) | (with_reducible exact Below.refl _ _) | (with_reducible refine Below.drew ?_) | (with_reducible refine below_alloc8 ?_ _))) qz).trans q0, (Below.cell (p := ⟨_, 1, none⟩) (show Below P0.heap.size P0 _ by repeat (first | (with_reducible assumption) | (with_reducible exact Below.refl _ _) | (with_reducible refine Below.drew ?_) | (with_reducible refine below_alloc8 ?_ _))) qz).trans q1, (Below.cell (p := ⟨_, 2, none⟩) (show Below P0.heap.size P0 _ by repeat (first | (with_reducible assumption) | (with_reducible exact Below.refl _ _) | (with_reducible refine Below.drew ?_) | (with_reducible refine below_alloc8 ?_ _))) qz).trans q2⟩) | go_keep)
              (first
                | (go_at_call 14; refine (NR.out _ a (below_next hP0 (Nat.le_refl _) (by repeat (first | (with_reducible assumption) | (with_reducible exact Below.refl _ _) | (with_reducible refine Below.drew ?_) | (with_reducible refine below_alloc8 ?_ _)))) hin_a).mono ?_; rintro e wn ⟨vN, rfl, hvN, hbn⟩; have hp : Below P0.heap.size P0 wn := below_next (by repeat (first | (with_reducible assumption) | (with_reducible exact Below.refl _ _) | (with_reducible refine Below.drew ?_) | (with_reducible refine below_alloc8 ?_ _))) (Nat.le_refl _) hbn; have HNB := Lib.hid hbn; clear hbn)
                | (go_at_call 15; (with_reducible show Calls _ _ #[.int .i64 refs, .int .i64 5] _ _); refine (mod_any refs 5 (by decide) (by decide) hin_r.1 hin_r.2 _).mono ?_; rintro e w' ⟨rfl, rfl⟩; rw [Hz5.out])
                | (go_at_call 15; (with_reducible show Calls _ _ #[.int .i64 data, .int .i64 7] _ _); refine (mod_any data 7 (by decide) (by decide) hin_d.1 hin_d.2 _).mono ?_; rintro e w' ⟨rfl, rfl⟩; rw [Hz7.out])
                | (go_at_call 15; (with_reducible show Calls _ _ #[.int .i64 refs, .int .i64 18] _ _); refine (mod_any refs 18 (by decide) (by decide) hin_r.1 hin_r.2 _).mono ?_; rintro e w' ⟨rfl, rfl⟩; rw [Hz18.out])
                | (go_at_call 15; (with_reducible show Calls _ _ #[.int .i64 data, .int .i64 35] _ _); refine (mod_any data 35 (by decide) (by decide) hin_d.1 hin_d.2 _).mono ?_; rintro e w' ⟨rfl, rfl⟩; rw [Hz35.out]))
            all_goals
              go_wp2
              go_meet
              refine ⟨rfl, rfl, _, rfl, ?_, by repeat (first | (with_reducible assumption) | (with_reducible exact Below.refl _ _) | (with_reducible refine Below.drew ?_) | (with_reducible refine below_alloc8 ?_ _))⟩
              apply rows3_of
              repeat (first | (with_reducible assumption) | (with_reducible refine Blk.drew8 ?_) | (with_reducible exact Blk.new _ _ _) | ((with_reducible refine Blk.newAt _ _ _ _ ?_); (focus (simp; done))) | (with_reducible refine Blk.alloc ?_ _) | ((with_reducible apply Blk.next8); (with_reducible assumption)))
          case rest =>
            obtain ⟨P, rfl⟩ : ∃ P, P = wc := ⟨_, rfl⟩
            obtain ⟨rfl, rfl, Q2, rfl, hRows, hbP⟩ := hcut
            clear hin_z5 hin_z7 hin_z18 hin_z35 hin_z18m hin_z35m wz18 wz35 Hz5 Hz7 Hz18 Hz35
            have HROW := Lib.hid hRows
            have hQ2 : Q2 < P.heap.size := by obtain ⟨_, _, _, _, _, _, _, _, h⟩ := hRows 0 (by decide); exact cell_lt h
            have BXP := Lib.hid (BX.out.next hbP)
            have HAP := Lib.hid (HVA.out.next hbP)
            have HTP := Lib.hid (HVT.out.next hbP)
            have HBP := Lib.hid (below_next HBP0.out (Nat.le_refl _) hbP)
            clear hRows hbP hp hP0 q0d q1d q2d q0 q1 q2 qz HVP0 HVA HVT BX HBP0
            go_wp2_with fail
            go_loopw [76] (fun i wr2 => ∃ l : Nat, l ≤ 3 ∧ i = .int .i64 l ∧ Below P.heap.size P wr2) (fun i _ => 3 - (intOf i).toNat)
            case atStart => exact ⟨0, Nat.zero_le _, rfl, Below.refl _ _⟩
            case round =>
              obtain ⟨W0, rfl⟩ : ∃ W0, W0 = wr := ⟨_, rfl⟩
              obtain ⟨l, hl, rfl, hb⟩ := hrel
              by_cases hll : l < 3
              · have zb0 := hb.size
                obtain ⟨b, xa, xb, xc, hbr, hxa, hxb, hxc, t0⟩ := HROW.out l hll
                have t0' := (hb.cell (p := ⟨Q2, l, none⟩) hQ2).trans t0
                have zq2 : Q2 < W0.heap.size := Nat.lt_of_lt_of_le hQ2 hb.size
                have BR0 := Lib.hid (hbr.next hb)
                have BX0 := Lib.hid (BXP.out.next hb)
                have HA0 := Lib.hid (HAP.out.next hb)
                have HT0 := Lib.hid (HTP.out.next hb)
                have K0 := Lib.hid hb
                clear hb t0 hbr zb0
                have y0 := BX0.out.cell 0
                have y1 := BX0.out.cell 1
                have y2 := BX0.out.cell 2
                have y3 := BR0.out.cell 0
                have y4 := BR0.out.cell 1
                have y5 := BR0.out.cell 2
                have zbx : R.heap.size < W0.heap.size := BX0.out.lt
                have zbW : b < W0.heap.size := BR0.out.lt
                simp at y0 y1 y2 y3 y4 y5
                have hl2 : 0 ≤ (l : Int) ∧ (l : Int) < 3 := by omega
                obtain ⟨s', nw', n', wd', F', x1, hnw', hn', hN⟩ := ini_val s nw wd n F xa xb xc hbw hbn
                have HN := Lib.hid hN
                have N := Lib.hid (show ∀ W, Below W0.heap.size W0 W → Calls Try.prog 16 #[.agg #[.int .i64 s, .slice A nw c, .slice A' n c'], .int .i64 xa, .int .i64 xb, .int .i64 xc] W (GivesS8 s' nw' n' wd' F' x1 W) from
                  fun W hW => (objInit_any s A A' nw c n c' wd F xa xb xc W (HA0.out.next hW) (HT0.out.next hW) hxa.1 hxa.2 hxb.1 hxb.2 hxc.1 hxc.2).mono (fun e w' h => HN.out W e w' h))
                clear hN
                go_upto_region 10 with fail
                clear t0'
                go_cut [23, 24] (fun v e wx => e = .int .i64 x1 ∧ SpBox W0 s' nw' n' wd' F' v wx)
                case first =>
                  have y0d : W0.drew.cell? ⟨R.heap.size, 0, none⟩ = some (.int .i64 s) := y0
                  have y0a : (W0.alloc (.cells #[.int .i64 0, .slice none 0 0, .slice none 0 0] 25)).drew.cell? ⟨R.heap.size, 0, none⟩ = some (.int .i64 s) := (((Below.refl _ W0).alloc (Nat.le_refl _) (.cells #[.int .i64 0, .slice none 0 0, .slice none 0 0] 25)).cell (p := ⟨R.heap.size, 0, none⟩) zbx).trans y0
                  have y1d : W0.drew.cell? ⟨R.heap.size, 1, none⟩ = some (.slice A nw c) := y1
                  have y1a : (W0.alloc (.cells #[.int .i64 0, .slice none 0 0, .slice none 0 0] 25)).drew.cell? ⟨R.heap.size, 1, none⟩ = some (.slice A nw c) := (((Below.refl _ W0).alloc (Nat.le_refl _) (.cells #[.int .i64 0, .slice none 0 0, .slice none 0 0] 25)).cell (p := ⟨R.heap.size, 1, none⟩) zbx).trans y1
                  have y2d : W0.drew.cell? ⟨R.heap.size, 2, none⟩ = some (.slice A' n c') := y2
                  have y2a : (W0.alloc (.cells #[.int .i64 0, .slice none 0 0, .slice none 0 0] 25)).drew.cell? ⟨R.heap.size, 2, none⟩ = some (.slice A' n c') := (((Below.refl _ W0).alloc (Nat.le_refl _) (.cells #[.int .i64 0, .slice none 0 0, .slice none 0 0] 25)).cell (p := ⟨R.heap.size, 2, none⟩) zbx).trans y2
                  have y3d : W0.drew.cell? ⟨b, 0, none⟩ = some (.int .i64 xa) := y3
                  have y3a : (W0.alloc (.cells #[.int .i64 0, .slice none 0 0, .slice none 0 0] 25)).drew.cell? ⟨b, 0, none⟩ = some (.int .i64 xa) := (((Below.refl _ W0).alloc (Nat.le_refl _) (.cells #[.int .i64 0, .slice none 0 0, .slice none 0 0] 25)).cell (p := ⟨b, 0, none⟩) zbW).trans y3
                  have y4d : W0.drew.cell? ⟨b, 1, none⟩ = some (.int .i64 xb) := y4
                  have y4a : (W0.alloc (.cells #[.int .i64 0, .slice none 0 0, .slice none 0 0] 25)).drew.cell? ⟨b, 1, none⟩ = some (.int .i64 xb) := (((Below.refl _ W0).alloc (Nat.le_refl _) (.cells #[.int .i64 0, .slice none 0 0, .slice none 0 0] 25)).cell (p := ⟨b, 1, none⟩) zbW).trans y4
                  have y5d : W0.drew.cell? ⟨b, 2, none⟩ = some (.int .i64 xc) := y5
                  have y5a : (W0.alloc (.cells #[.int .i64 0, .slice none 0 0, .slice none 0 0] 25)).drew.cell? ⟨b, 2, none⟩ = some (.int .i64 xc) := (((Below.refl _ W0).alloc (Nat.le_refl _) (.cells #[.int .i64 0, .slice none 0 0, .slice none 0 0] 25)).cell (p := ⟨b, 2, none⟩) zbW).trans y5
                  have HBBH := Lib.hid (show Blk (W0.alloc (.cells #[.int .i64 0, .slice none 0 0, .slice none 0 0] 25)).drew W0.heap.size 25 #[.int .i64 0, .slice none 0 0, .slice none 0 0] from Blk.new _ _ _)
                  have HUAH := Lib.hid (show Below W0.heap.size W0 (W0.alloc (.cells #[.int .i64 0, .slice none 0 0, .slice none 0 0] 25)).drew from ((Below.refl _ _).alloc (Nat.le_refl _) _).drew)
                  have HUDH := Lib.hid (show Below W0.heap.size W0 W0.drew from (Below.refl _ _).drew)
                  go_region_held3 (fun w' => w'.cell? ⟨R.heap.size, 0, none⟩ = some (.int .i64 s) ∧ w'.cell? ⟨R.heap.size, 1, none⟩ = some (.slice A nw c) ∧ w'.cell? ⟨R.heap.size, 2, none⟩ = some (.slice A' n c') ∧ w'.cell? ⟨b, 0, none⟩ = some (.int .i64 xa) ∧ w'.cell? ⟨b, 1, none⟩ = some (.int .i64 xb) ∧ w'.cell? ⟨b, 2, none⟩ = some (.int .i64 xc))
                    (first | (with_reducible exact ⟨y0d, y1d, y2d, y3d, y4d, y5d⟩) | (with_reducible exact ⟨u0, u1, u2, u3, u4, u5⟩) | (with_reducible exact ⟨y0a, y1a, y2a, y3a, y4a, y5a⟩) | (with_reducible exact ⟨(cell_far3 (Nat.ne_of_lt zbx) _ _ _).trans u0, (cell_far3 (Nat.ne_of_lt zbx) _ _ _).trans u1, (cell_far3 (Nat.ne_of_lt zbx) _ _ _).trans u2, (cell_far3 (Nat.ne_of_lt zbW) _ _ _).trans u3, (cell_far3 (Nat.ne_of_lt zbW) _ _ _).trans u4, (cell_far3 (Nat.ne_of_lt zbW) _ _ _).trans u5⟩) | go_keep)
                    (first
                      | (go_at_call 16; refine (N.out _ (by first | (with_reducible exact HUDH.out) | (with_reducible exact HUAH.out))).mono ?_; rintro e wn ⟨RA, rc, RA', rc', rfl, ho, ht, hb⟩; have u0 : wn.cell? ⟨R.heap.size, 0, none⟩ = some (.int .i64 s) := (hb.cell (p := ⟨R.heap.size, 0, none⟩) (by simp; omega)).trans (by first | (with_reducible exact y0d) | (with_reducible exact y0a)); have u1 : wn.cell? ⟨R.heap.size, 1, none⟩ = some (.slice A nw c) := (hb.cell (p := ⟨R.heap.size, 1, none⟩) (by simp; omega)).trans (by first | (with_reducible exact y1d) | (with_reducible exact y1a)); have u2 : wn.cell? ⟨R.heap.size, 2, none⟩ = some (.slice A' n c') := (hb.cell (p := ⟨R.heap.size, 2, none⟩) (by simp; omega)).trans (by first | (with_reducible exact y2d) | (with_reducible exact y2a)); have u3 : wn.cell? ⟨b, 0, none⟩ = some (.int .i64 xa) := (hb.cell (p := ⟨b, 0, none⟩) (by simp; omega)).trans (by first | (with_reducible exact y3d) | (with_reducible exact y3a)); have u4 : wn.cell? ⟨b, 1, none⟩ = some (.int .i64 xb) := (hb.cell (p := ⟨b, 1, none⟩) (by simp; omega)).trans (by first | (with_reducible exact y4d) | (with_reducible exact y4a)); have u5 : wn.cell? ⟨b, 2, none⟩ = some (.int .i64 xc) := (hb.cell (p := ⟨b, 2, none⟩) (by simp; omega)).trans (by first | (with_reducible exact y5d) | (with_reducible exact y5a)); (try have bb : Blk wn W0.heap.size 25 #[.int .i64 0, .slice none 0 0, .slice none 0 0] := (by with_reducible exact HBBH.out.next hb)); (try have bz := bb.lt); (try have t0 := bb.cell 0); (try have t1 := bb.cell 1); (try have t2 := bb.cell 2); (try have t3 := bb.frozen 0); (try have t4 := bb.frozen 1); (try have t5 := bb.frozen 2); (try simp at t0 t1 t2)))
                  all_goals
                    first
                    | (have HBX := Lib.hid (spbox_early (s := s') (Nat.le_refl _) HUAH.out hb bb (by simp) rfl ho ht); clear hb ho ht bb t0 t1 t2 t3 t4 t5; go_wp2; go_meet; exact ⟨rfl, HBX.out⟩)
                    | (have HBX := Lib.hid (spbox_late (s := s') HUDH.out hb ho ht); clear hb ho ht; go_wp2; go_meet; exact ⟨rfl, HBX.out⟩)
                case rest =>
                  obtain ⟨W1, rfl⟩ : ∃ W1, W1 = wc := ⟨_, rfl⟩
                  obtain ⟨rfl, t23, B1, k1, B1', k1', rfl, hx1, ha1, ht1, hb1, hz1⟩ := hcut
                  have BX1 := Lib.hid (BX0.out.next hb1)
                  have BR1 := Lib.hid (BR0.out.next hb1)
                  have HA1 := Lib.hid (HA0.out.next hb1)
                  have HT1 := Lib.hid (HT0.out.next hb1)
                  have K1 := Lib.hid (below_next K0.out (Nat.le_refl _) hb1)
                  have HX1 := Lib.hid hx1
                  have HAX := Lib.hid ha1
                  have HTX := Lib.hid ht1
                  clear y0 y1 y2 y3 y4 y5 zbx zbW hx1 ha1 ht1 hb1 K0 HA0 HT0 BX0 BR0 N
                  have y0 := BX1.out.cell 0
                  have y1 := BX1.out.cell 1
                  have y2 := BX1.out.cell 2
                  have y3 := BR1.out.cell 0
                  have y4 := BR1.out.cell 1
                  have y5 := BR1.out.cell 2
                  have zbx : R.heap.size < W1.heap.size := BX1.out.lt
                  have zbW : b < W1.heap.size := BR1.out.lt
                  simp at y0 y1 y2 y3 y4 y5
                  have N := Lib.hid (show ∀ W, Below W1.heap.size W1 W → Calls Try.prog 17 #[.agg #[.int .i64 s, .slice A nw c, .slice A' n c'], .int .i64 xa, .int .i64 xb, .int .i64 xc] W (GivesS8 s' nw' n' wd' F' x1 W) from
                    fun W hW => (refInit_any s A A' nw c n c' wd F xa xb xc W (HA1.out.next hW) (HT1.out.next hW) hxb.1 hxb.2 hxc.1 hxc.2).mono (fun e w' h => HN.out W e w' h))
                  clear HN
                  go_upto_region 11 with fail
                  go_cut [25, 26] (fun v e wx => e = .int .i64 x1 ∧ SpBox W1 s' nw' n' wd' F' v wx)
                  case first =>
                    have y0d : W1.drew.cell? ⟨R.heap.size, 0, none⟩ = some (.int .i64 s) := y0
                    have y0a : (W1.alloc (.cells #[.int .i64 0, .slice none 0 0, .slice none 0 0] 25)).drew.cell? ⟨R.heap.size, 0, none⟩ = some (.int .i64 s) := (((Below.refl _ W1).alloc (Nat.le_refl _) (.cells #[.int .i64 0, .slice none 0 0, .slice none 0 0] 25)).cell (p := ⟨R.heap.size, 0, none⟩) zbx).trans y0
                    have y1d : W1.drew.cell? ⟨R.heap.size, 1, none⟩ = some (.slice A nw c) := y1
                    have y1a : (W1.alloc (.cells #[.int .i64 0, .slice none 0 0, .slice none 0 0] 25)).drew.cell? ⟨R.heap.size, 1, none⟩ = some (.slice A nw c) := (((Below.refl _ W1).alloc (Nat.le_refl _) (.cells #[.int .i64 0, .slice none 0 0, .slice none 0 0] 25)).cell (p := ⟨R.heap.size, 1, none⟩) zbx).trans y1
                    have y2d : W1.drew.cell? ⟨R.heap.size, 2, none⟩ = some (.slice A' n c') := y2
                    have y2a : (W1.alloc (.cells #[.int .i64 0, .slice none 0 0, .slice none 0 0] 25)).drew.cell? ⟨R.heap.size, 2, none⟩ = some (.slice A' n c') := (((Below.refl _ W1).alloc (Nat.le_refl _) (.cells #[.int .i64 0, .slice none 0 0, .slice none 0 0] 25)).cell (p := ⟨R.heap.size, 2, none⟩) zbx).trans y2
                    have y3d : W1.drew.cell? ⟨b, 0, none⟩ = some (.int .i64 xa) := y3
                    have y3a : (W1.alloc (.cells #[.int .i64 0, .slice none 0 0, .slice none 0 0] 25)).drew.cell? ⟨b, 0, none⟩ = some (.int .i64 xa) := (((Below.refl _ W1).alloc (Nat.le_refl _) (.cells #[.int .i64 0, .slice none 0 0, .slice none 0 0] 25)).cell (p := ⟨b, 0, none⟩) zbW).trans y3
                    have y4d : W1.drew.cell? ⟨b, 1, none⟩ = some (.int .i64 xb) := y4
                    have y4a : (W1.alloc (.cells #[.int .i64 0, .slice none 0 0, .slice none 0 0] 25)).drew.cell? ⟨b, 1, none⟩ = some (.int .i64 xb) := (((Below.refl _ W1).alloc (Nat.le_refl _) (.cells #[.int .i64 0, .slice none 0 0, .slice none 0 0] 25)).cell (p := ⟨b, 1, none⟩) zbW).trans y4
                    have y5d : W1.drew.cell? ⟨b, 2, none⟩ = some (.int .i64 xc) := y5
                    have y5a : (W1.alloc (.cells #[.int .i64 0, .slice none 0 0, .slice none 0 0] 25)).drew.cell? ⟨b, 2, none⟩ = some (.int .i64 xc) := (((Below.refl _ W1).alloc (Nat.le_refl _) (.cells #[.int .i64 0, .slice none 0 0, .slice none 0 0] 25)).cell (p := ⟨b, 2, none⟩) zbW).trans y5
                    have HBBH := Lib.hid (show Blk (W1.alloc (.cells #[.int .i64 0, .slice none 0 0, .slice none 0 0] 25)).drew W1.heap.size 25 #[.int .i64 0, .slice none 0 0, .slice none 0 0] from Blk.new _ _ _)
                    have HUAH := Lib.hid (show Below W1.heap.size W1 (W1.alloc (.cells #[.int .i64 0, .slice none 0 0, .slice none 0 0] 25)).drew from ((Below.refl _ _).alloc (Nat.le_refl _) _).drew)
                    have HUDH := Lib.hid (show Below W1.heap.size W1 W1.drew from (Below.refl _ _).drew)
                    go_region_held3 (fun w' => w'.cell? ⟨R.heap.size, 0, none⟩ = some (.int .i64 s) ∧ w'.cell? ⟨R.heap.size, 1, none⟩ = some (.slice A nw c) ∧ w'.cell? ⟨R.heap.size, 2, none⟩ = some (.slice A' n c') ∧ w'.cell? ⟨b, 0, none⟩ = some (.int .i64 xa) ∧ w'.cell? ⟨b, 1, none⟩ = some (.int .i64 xb) ∧ w'.cell? ⟨b, 2, none⟩ = some (.int .i64 xc))
                      (first | (with_reducible exact ⟨y0d, y1d, y2d, y3d, y4d, y5d⟩) | (with_reducible exact ⟨u0, u1, u2, u3, u4, u5⟩) | (with_reducible exact ⟨y0a, y1a, y2a, y3a, y4a, y5a⟩) | (with_reducible exact ⟨(cell_far3 (Nat.ne_of_lt zbx) _ _ _).trans u0, (cell_far3 (Nat.ne_of_lt zbx) _ _ _).trans u1, (cell_far3 (Nat.ne_of_lt zbx) _ _ _).trans u2, (cell_far3 (Nat.ne_of_lt zbW) _ _ _).trans u3, (cell_far3 (Nat.ne_of_lt zbW) _ _ _).trans u4, (cell_far3 (Nat.ne_of_lt zbW) _ _ _).trans u5⟩) | go_keep)
                      (first
                        | (go_at_call 17; refine (N.out _ (by first | (with_reducible exact HUDH.out) | (with_reducible exact HUAH.out))).mono ?_; rintro e wn ⟨RA, rc, RA', rc', rfl, ho, ht, hb⟩; have u0 : wn.cell? ⟨R.heap.size, 0, none⟩ = some (.int .i64 s) := (hb.cell (p := ⟨R.heap.size, 0, none⟩) (by simp; omega)).trans (by first | (with_reducible exact y0d) | (with_reducible exact y0a)); have u1 : wn.cell? ⟨R.heap.size, 1, none⟩ = some (.slice A nw c) := (hb.cell (p := ⟨R.heap.size, 1, none⟩) (by simp; omega)).trans (by first | (with_reducible exact y1d) | (with_reducible exact y1a)); have u2 : wn.cell? ⟨R.heap.size, 2, none⟩ = some (.slice A' n c') := (hb.cell (p := ⟨R.heap.size, 2, none⟩) (by simp; omega)).trans (by first | (with_reducible exact y2d) | (with_reducible exact y2a)); have u3 : wn.cell? ⟨b, 0, none⟩ = some (.int .i64 xa) := (hb.cell (p := ⟨b, 0, none⟩) (by simp; omega)).trans (by first | (with_reducible exact y3d) | (with_reducible exact y3a)); have u4 : wn.cell? ⟨b, 1, none⟩ = some (.int .i64 xb) := (hb.cell (p := ⟨b, 1, none⟩) (by simp; omega)).trans (by first | (with_reducible exact y4d) | (with_reducible exact y4a)); have u5 : wn.cell? ⟨b, 2, none⟩ = some (.int .i64 xc) := (hb.cell (p := ⟨b, 2, none⟩) (by simp; omega)).trans (by first | (with_reducible exact y5d) | (with_reducible exact y5a)); (try have bb : Blk wn W1.heap.size 25 #[.int .i64 0, .slice none 0 0, .slice none 0 0] := (by with_reducible exact HBBH.out.next hb)); (try have bz := bb.lt); (try have t0 := bb.cell 0); (try have t1 := bb.cell 1); (try have t2 := bb.cell 2); (try have t3 := bb.frozen 0); (try have t4 := bb.frozen 1); (try have t5 := bb.frozen 2); (try simp at t0 t1 t2)))
                    all_goals
                      first
                      | (have HBX := Lib.hid (spbox_early (s := s') (Nat.le_refl _) HUAH.out hb bb (by simp) rfl ho ht); clear hb ho ht bb t0 t1 t2 t3 t4 t5; go_wp2; go_meet; exact ⟨rfl, HBX.out⟩)
                      | (have HBX := Lib.hid (spbox_late (s := s') HUDH.out hb ho ht); clear hb ho ht; go_wp2; go_meet; exact ⟨rfl, HBX.out⟩)
                  case rest =>
                    obtain ⟨W2, rfl⟩ : ∃ W2, W2 = wc := ⟨_, rfl⟩
                    obtain ⟨rfl, t25, B2, k2, B2', k2', rfl, hx2, ha2, ht2, hb2, hz2⟩ := hcut
                    have K2 := Lib.hid (below_next K1.out (Nat.le_refl _) hb2)
                    have HX1' := HX1.out.next hb2
                    have HAX' := Lib.hid (HAX.out.next hb2)
                    have HTX' := Lib.hid (HTX.out.next hb2)
                    have HAY := Lib.hid ha2
                    have HTY := Lib.hid ht2
                    clear y0 y1 y2 y3 y4 y5 zbx zbW ha2 ht2 hb2 K1 HA1 HT1 BX1 BR1 N HX1 HAX HTX
                    have r0 := HX1'.cell 0
                    have r1 := HX1'.cell 1
                    have r2 := HX1'.cell 2
                    have rz := HX1'.lt
                    have q0 := hx2.cell 0
                    have q1 := hx2.cell 1
                    have q2 := hx2.cell 2
                    have qz := hx2.lt
                    simp at r0 r1 r2 q0 q1 q2
                    clear hx2 HX1' hz1 hz2
                    go_wp2_with (go_at_call 18; refine (sameSp_yes s' B1 B1' B2 B2' nw' k1 k2 n' k1' k2' wd' F' W2 HAX'.out HAY.out HTX'.out HTY.out hnw' hn').mono ?_; rintro e W3 ⟨rfl, hb3⟩)
                    exact ⟨⟨l + 1, by omega, by go_num, below_next K2.out (Nat.le_refl _) hb3⟩, by simp [intOf]; omega⟩
              · obtain rfl : l = 3 := by omega
                have K0 := Lib.hid (below_next HBP.out (Nat.le_refl _) hb)
                clear hb
                go_wp2_with fail
                exact ⟨⟨j + 1, by omega, by go_num, K0.out⟩, by simp [intOf]; omega⟩
        · obtain rfl : j = 3 := by omega
          have HB8 := Lib.hid (below_next HBV.out (Nat.le_refl _) (below_next HCV.out (Nat.le_refl _) hb))
          clear hb
          go_wp2_with (go_at_call 10; refine (awake8_any _).mono ?_; rintro e w9 ⟨rfl, hb9⟩)
          go_ret
          exact ⟨rfl, below_next HB8.out (Nat.le_refl _) hb9⟩
end Go.Proofs.Ytfjdafnejhgijaa
