/-
  The walk of BumpWastes. (Made by mkbws-s9.py.)
-/
import Derived.Test.YthlkodhkhkdggaaDoorWst
import Derived.Test.YthlkodhkhkdggaaDoorAwk
import Derived.Deep.RegionHeld3
import Derived.Deep.DeepCutAuto
namespace Go.Proofs.YthlkodhkhkdggaaDoor
open Go.RowKit
set_option maxRecDepth 100000
set_option linter.unusedVariables false

/-- What holds at the head of BumpWastes' loop; bs, bi: the boxes of the space and of the increment. -/
def WstAt (K n mk dk bs bi : Nat) (w wr : World) : Prop :=
  ∃ (fi la : Int) (W base : Nat) (G : Nat → Fr) (A : Option Addr) (c : Nat) (A' : Option Addr) (c' : Nat), DeckP wr dk ∧ dk < base ∧ base ≤ wr.heap.size ∧ Blk wr bs 25 #[.int .i64 K, .slice A mk c, .slice A' n c'] ∧ Blk wr bi 27 #[.int .i64 4, .int .i64 1, .int .i64 fi, .int .i64 la, .int .i64 W] ∧ Own wr base A mk c (fun _ => 0) ∧ OwnT wr base A' n c' G ∧
    ValidP K mk (fun _ => 0) n G ∧ FitsQ K n mk G 4 1 fi la W ∧ (W = 0 → cntO G 4 n = 0) ∧ OneP G n 4 ∧ W ≤ mk ∧ Below w.heap.size w wr

set_option maxHeartbeats 40000000 in
theorem walkBWastes (Al : Option Addr) (nl cl : Nat) (shift nn : Int) (w : World) (hL : ListP w w.heap.size Al nl cl) (hD : Db w) (a0 : -9223372036854775808 ≤ shift) (a1 : shift ≤ 9223372036854775807) (b0 : -9223372036854775808 ≤ nn) (b1 : nn ≤ 9223372036854775807) :
    Calls Tryd.prog 5 #[.slice Al nl cl, .int .i64 shift, .int .i64 nn] w fun e w' => e = .returned (.bool true) ∧ Below w.heap.size w w' := by
  have HD := Lib.hid hD
  have HL := Lib.hid hL
  clear hL hD
  go_enter Tryd.func5, Tryd.ntmps5
  go_wp2_with fail
  refine (few9_any Al nl cl w).mono ?_
  rintro e w0 ⟨⟨b0, rfl⟩, rfl⟩
  rcases b0 with _ | _
  · go_wp2_with (go_at_call 9; refine (awake9_any _ HD.out).mono ?_; rintro e w6 ⟨rfl, b6⟩; have HB6 := Lib.hid b6; clear b6)
    go_ret
    exact ⟨rfl, HB6.out⟩
  · go_wp2_with fail
    refine (deck_any Al nl cl w HL.out).mono ?_
    rintro e U2 ⟨rfl, hd, hb, hz⟩
    have HDK := Lib.hid hd
    have HBU2 := Lib.hid hb
    have zd : w.heap.size < U2.heap.size := by omega
    obtain ⟨dk, hdk⟩ : ∃ x, x = w.heap.size := ⟨_, rfl⟩
    rw [← hdk] at HDK zd ⊢
    have HDKE := Lib.hid hdk
    clear hd hb hz hdk
    obtain ⟨z1, hz1, z10, z11⟩ : ∃ z, shift % 3 = z ∧ 0 ≤ z ∧ z < 3 := ⟨_, rfl, by omega, by omega⟩
    obtain ⟨z2, hz2, z20, z21⟩ : ∃ z, nn % 30 = z ∧ 0 ≤ z ∧ z < 30 := ⟨_, rfl, by omega, by omega⟩
    have HZ1 := Lib.hid hz1
    have HZ2 := Lib.hid hz2
    have s1 : IntKind.i64.wrap (3 + z1) = 3 + z1 := IntWalk.i64_in _ (by omega)
    have s2 : IntKind.i64.wrap (2 + z2) = 2 + z2 := IntWalk.i64_in _ (by omega)
    clear hz1 hz2
    go_wp2_with fail
    refine (mod_any shift 3 (by decide) (by decide) a0 a1 _).mono ?_
    rintro e w' ⟨rfl, rfl⟩
    rw [HZ1.out]
    go_wp2_with fail
    refine (mod_any nn 30 (by decide) (by decide) b0 b1 _).mono ?_
    rintro e w' ⟨rfl, rfl⟩
    rw [HZ2.out]
    go_wp2_with fail
    obtain ⟨K, hK, k0, k1⟩ : ∃ K : Nat, (3 : Int) + z1 = K ∧ 3 ≤ K ∧ K ≤ 5 := ⟨(3 + z1).toNat, by omega, by omega, by omega⟩
    obtain ⟨n, hn, n0, n1⟩ : ∃ n : Nat, (2 : Int) + z2 = n ∧ 2 ≤ n ∧ n ≤ 31 := ⟨(2 + z2).toNat, by omega, by omega, by omega⟩
    rw [hK, hn]
    clear s1 s2 hK hn
    refine (refNew_yes K n U2 k0 (by omega) n0 (by omega)).mono ?_
    rintro e U3 ⟨A, A', rfl, ho, ht, hb⟩
    have hvf := valid_fresh (k := K) (n := n) k0 (by omega) n0 (by omega)
    obtain ⟨mk, hmk⟩ : ∃ mk, mk = n * 2 ^ K := ⟨_, rfl⟩
    have hmk1 : mk ≤ 16384 := by rw [hmk]; exact prod_le (by omega) (by omega)
    rw [← hmk] at ho hvf ⊢
    have HMK := Lib.hid hmk
    obtain ⟨V, hV⟩ : ∃ V, V = (U3.alloc (.cells #[.int .i64 K, .slice A mk mk, .slice A' n n] 25)).alloc (.cells #[.int .i64 4, .int .i64 1, .int .i64 (-1), .int .i64 (-1), .int .i64 0] 27) := ⟨_, rfl⟩
    obtain ⟨bs, hbs⟩ : ∃ x, x = U3.heap.size := ⟨_, rfl⟩
    obtain ⟨bi, hbi⟩ : ∃ x, x = U3.heap.size + 1 := ⟨_, rfl⟩
    have hbv : Below U2.heap.size U2 V := by rw [hV]; exact below_alloc9 (below_alloc9 hb _) _
    have zU3 := hb.size
    have ST := Lib.hid (show WstAt K n mk dk bs bi w V from ⟨-1, -1, 0, U2.heap.size, _, A, mk, A', n, HDK.out.next hbv, by omega, hbv.size, by rw [hV, hbs]; exact (Blk.new _ _ _).alloc _, by rw [hV, hbi]; exact Blk.newAt _ _ _ _ (by simp), by rw [hV]; exact (ho.alloc9 _).alloc9 _, by rw [hV]; exact (ht.alloc9 _).alloc9 _, hvf, fits_new (by decide) (by decide) (by decide) (by decide), fun _ => cntO_none (fun f hf => by decide), fun f hf => .inl rfl, Nat.zero_le _, below_next HBU2.out (Nat.le_refl _) hbv⟩)
    have hne : bs ≠ bi := by omega
    have hds : dk ≠ bs ∧ dk ≠ bi := by omega
    have hdl : dk < bs ∧ dk < bi := by omega
    have HV := Lib.hid hV
    have HBS := Lib.hid hbs
    have HBI := Lib.hid hbi
    clear hV hbv ho ht hb hvf hmk hbs hbi zU3 zd HBU2 HDK
    go_wp2_with fail
    rw [← HV.out]
    try rw [← HBI.out]
    try rw [← HBS.out]
    clear HV HBS HBI
    go_loopw [11, 12, 13, 14, 15, 16, 17] (fun _ _ _ _ _ _ _ wr => WstAt K n mk dk bs bi w wr) (fun _ _ _ _ _ _ _ wr => mk - (intOf ((wr.cell? ⟨bi, 4, none⟩).getD undef)).toNat)
    case atStart => exact ST.out
    case round =>
      obtain ⟨R, rfl⟩ : ∃ R, R = wr := ⟨_, rfl⟩
      obtain ⟨fi, la, W, base, G, A, c, A', c', hdk, hdb, hbR, hbs, hbi, ho, ht, hv, hf, hw0, hone, hWm, hb⟩ := hrel
      have HMEAS := Lib.hid (show mk - (intOf ((R.cell? ⟨bi, 4, none⟩).getD undef)).toNat = mk - W by rw [hbi.cell 4]; simp [intOf])
      have HV := Lib.hid hv
      have HF := Lib.hid hf
      have HW0 := Lib.hid hw0
      have HONE := Lib.hid hone
      have HHD := Lib.hid (HD.out.next hb)
      have zs : bs < R.heap.size := hbs.lt
      have zi : bi < R.heap.size := hbi.lt
      clear hv hf hw0 hone
      go_wp2_with fail
      refine (left9_any dk R hdk).mono ?_
      rintro e R0 ⟨⟨b3, rfl⟩, hb3⟩
      have BS := Lib.hid (hbs.next hb3)
      have BI := Lib.hid (hbi.next hb3)
      have HO := Lib.hid (ho.below hb3)
      have HT := Lib.hid (ht.below hb3)
      have HB := Lib.hid (below_next hb (by omega) hb3)
      have HDK := Lib.hid (hdk.next hb3)
      have HD0 := Lib.hid (HHD.out.next hb3)
      have zb0 := hb3.size
      clear hb3 hbs hbi ho ht hb hdk HHD
      rcases b3 with _ | _
      · go_wp2_with (go_at_call 9; refine (awake9_any _ HD0.out).mono ?_; rintro e w6 ⟨rfl, b6⟩; have HB6 := Lib.hid b6; clear b6)
        go_ret
        exact ⟨rfl, below_next HB.out (by have := HB.out.size; omega) HB6.out⟩
      · go_wp2_with fail
        refine (next_any dk 48 R0 (by decide) (by decide) HDK.out).mono ?_
        rintro e R1 ⟨v, rfl, v0, v1, hdk, hg⟩
        have HDK1 := Lib.hid hdk
        have BS1 := Lib.hid (BS.out.turn hg (fun e => hds.1 e.symm))
        have BI1 := Lib.hid (BI.out.turn hg (fun e => hds.2 e.symm))
        have HO1 := Lib.hid (HO.out.turnB hg hdb)
        have HT1 := Lib.hid (HT.out.turnB hg hdb)
        have HB1 := Lib.hid (below_turn HB.out hg (by have := HDKE.out; omega))
        have HD1 := Lib.hid (HD.out.next HB1.out)
        have zb1 := hg.size
        have s1 : IntKind.i64.wrap (1 + v) = 1 + v := IntWalk.i64_in _ (by omega)
        obtain ⟨k, hk⟩ : ∃ k : Nat, 1 + v = k := ⟨(1 + v).toNat, by omega⟩
        have hkb : 1 ≤ k ∧ k ≤ 48 := by omega
        rw [hk] at s1
        clear hdk hg BS BI HO HT HB HDK HD0
        have p0 := BS1.out.cell 0
        have p1 := BS1.out.cell 1
        have p2 := BS1.out.cell 2
        simp at p0 p1 p2
        have q0 := BI1.out.cell 0
        have q1 := BI1.out.cell 1
        have q2 := BI1.out.cell 2
        have q3 := BI1.out.cell 3
        have q4 := BI1.out.cell 4
        simp at q0 q1 q2 q3 q4
        have zs : bs < R1.heap.size := BS1.out.lt
        have zi : bi < R1.heap.size := BI1.out.lt
        have hincB : incB K mk (fun _ => 0) n G 4 1 fi la W = true := incB_mk HV.out (by rw [Int.toNat_natCast]; exact HF.out)
        have HI := Lib.hid hincB
        clear hincB
        go_wp2_with fail
        refine (all9_any K A A' mk c n c' (fun _ => 0) G 4 1 fi la W k R1 HO1.out.arr HT1.out.tab HD1.out).mono ?_
        intro e X1 hax
        rcases hax with ⟨x, hx1, hx2, rfl, hb⟩ | ⟨hE, A1, c1, g1, c2, rfl, ho, ht, hb⟩
        · obtain ⟨hx4, hfull⟩ := allE_four hx1 hx2 HI.out (by omega) (by omega) (fun e => HW0.out (by omega))
          subst hx4
          rw [Int.toNat_natCast, Int.toNat_natCast] at hfull
          obtain ⟨X2, hX⟩ : ∃ X, X = (X1.alloc (.cells #[.int .i64 0, .slice none 0 0, .slice none 0 0] 25)).alloc (.cells #[.int .i64 0, .int .i64 0, .int .i64 0, .int .i64 0, .int .i64 0] 27) := ⟨_, rfl⟩
          have hbx : Below R1.heap.size R1 X2 := by rw [hX]; exact below_alloc9 (below_alloc9 hb _) _
          have BS2 := BS1.out.next hbx
          have BI2 := BI1.out.next hbx
          have HT2 := Lib.hid (HT1.out.tab.next hbx)
          have HB2 := Lib.hid (below_next HB1.out (by have := HB1.out.size; omega) hbx)
          have HD2 := Lib.hid (HD.out.next HB2.out)
          have HX := Lib.hid hX
          clear hX hbx hb p0 p1 p2 q0 q1 q2 q3 q4 zs zi hx1 hx2
          obtain ⟨mr, hmr⟩ : ∃ x, x = moreK K W k := ⟨_, rfl⟩
          have HMR := Lib.hid (show extZ K W k = (mr : Int) by rw [hmr]; exact extZ_nat (by omega) (by omega) (by omega))
          obtain ⟨fn, hfn⟩ : ∃ x, x = (ownL G (-1) n).length := ⟨_, rfl⟩
          have hfl : (fn : Int) < (mr : Int) := by
            have : fn = freeN G n := by rw [hfn, freeN_cntP]; exact lstP_length _ _
            omega
          have HFN := Lib.hid hfn
          clear hmr hfn hfull
          go_upto_region 12 with fail
          rw [← HX.out]
          have p0 := BS2.cell 0
          have p1 := BS2.cell 1
          have p2 := BS2.cell 2
          simp at p0 p1 p2
          have q0 := BI2.cell 0
          have q1 := BI2.cell 1
          have q2 := BI2.cell 2
          have q3 := BI2.cell 3
          have q4 := BI2.cell 4
          simp at q0 q1 q2 q3 q4
          have zs : bs < X2.heap.size := BS2.lt
          have zi : bi < X2.heap.size := BI2.lt
          have hc : Below X2.heap.size X2 X2.drew := (Below.refl _ _).drew
          clear BS2 BI2
          go_region_held3 (fun w' => w'.cell? ⟨bs, 0, none⟩ = some (.int .i64 K) ∧ w'.cell? ⟨bs, 1, none⟩ = some (.slice A mk c) ∧ w'.cell? ⟨bs, 2, none⟩ = some (.slice A' n c') ∧ w'.cell? ⟨bi, 0, none⟩ = some (.int .i64 4) ∧ w'.cell? ⟨bi, 1, none⟩ = some (.int .i64 1) ∧ w'.cell? ⟨bi, 2, none⟩ = some (.int .i64 fi) ∧ w'.cell? ⟨bi, 3, none⟩ = some (.int .i64 la) ∧ w'.cell? ⟨bi, 4, none⟩ = some (.int .i64 W))
            (first | (with_reducible exact ⟨(hc.cell (p := ⟨_, 0, none⟩) zs).trans p0, (hc.cell (p := ⟨_, 1, none⟩) zs).trans p1, (hc.cell (p := ⟨_, 2, none⟩) zs).trans p2, (hc.cell (p := ⟨_, 0, none⟩) zi).trans q0, (hc.cell (p := ⟨_, 1, none⟩) zi).trans q1, (hc.cell (p := ⟨_, 2, none⟩) zi).trans q2, (hc.cell (p := ⟨_, 3, none⟩) zi).trans q3, (hc.cell (p := ⟨_, 4, none⟩) zi).trans q4⟩) | go_keep)
            (first
              | (go_at_call 20; refine (extra9_any K W k _ _ 4 1 fi la _).mono ?_; rintro e wq ⟨rfl, hb⟩; rw [HMR.out]; have hc := below_next hc (Nat.le_refl _) hb)
              | (go_at_call 32; refine (refFreeC_any K (.slice A mk c) A' n c' G _ (HT2.out.next hc) (by omega)).mono ?_; rintro e wq ⟨FA, FC, rfl, _, hb⟩; rw [← HFN.out]; have hc := below_next hc (Nat.le_refl _) hb)
              | (go_at_call 9; refine (awake9_any _ (HD2.out.next hc)).mono ?_; rintro e wq ⟨rfl, hb⟩; have hc := below_next hc (Nat.le_refl _) hb))
          all_goals
            have K9 := Lib.hid (below_next HB2.out (by have := HB2.out.size; omega) hc)
            clear hc
            go_wp2
            go_ret
            exact ⟨rfl, K9.out⟩
        · obtain ⟨W', D, hW', hD', d1, d2, _, hvN, hfN, hgr⟩ := all_valid hE
          obtain rfl : W = W' := by omega
          obtain rfl : k = D := by omega
          rw [Int.toNat_natCast, Int.toNat_natCast]
          obtain ⟨x, hx⟩ : ∃ x, x = allG K n G 4 1 fi la W k := ⟨_, rfl⟩
          rw [← hx] at hvN hfN hgr ht ⊢
          obtain ⟨G2, fi2, la2⟩ := x
          dsimp only at hvN hfN hgr ht ⊢
          have hst := fits_stB hfN.1
          obtain ⟨W2, hW2⟩ : ∃ x, x = W + k := ⟨_, rfl⟩
          have hcov := ceilV_cover (W + k) K
          rw [← hW2] at hfN hgr hcov
          have hpos : 0 < ceilV W2 K := ceilV_pos (by omega)
          obtain ⟨p, hfi2, hpn, _, _, _⟩ := fits_first hfN (by omega)
          subst hfi2
          obtain ⟨hx0, hxv, had0, had1⟩ := idx_val hvN hgr.2.1 hst (show W < ceilV W2 K * 2 ^ K by omega)
          have hcn : cntO G2 4 n = ceilV W2 K := by
            have := hfN.2 (by omega)
            rw [Int.toNat_natCast] at this
            omega
          have hone2 : OneP G2 n 4 := fun f hf => by
            rcases hgr.2.2.2.1 f with h | h
            · rw [h]; exact HONE.out f hf
            · exact .inr h
          have hused : n - cntP (owB G2 (-1)) n = ceilV W2 K := by rw [one_used (by decide) n hone2, hcn]
          obtain ⟨cv, hcv⟩ : ∃ x, x = ceilV W2 K := ⟨_, rfl⟩
          rw [← hcv] at hused hcov
          have hcvn : cv ≤ n := by omega
          obtain ⟨zz, hzz⟩ : ∃ x : Nat, x = 2 ^ K := ⟨_, rfl⟩
          have hzc : (2 : Int) ^ K = (zz : Int) := by rw [hzz]; simp
          have hzb : 8 ≤ zz ∧ zz ≤ 32 := by
            rw [hzz]
            rcases (by omega : K = 3 ∨ K = 4 ∨ K = 5) with e | e | e <;> subst e <;> decide
          have hwaste : cv * zz < W2 + zz := by
            rw [hzz, hcv]
            unfold ceilV
            have h1 := Nat.div_mul_le_self (W2 + 2 ^ K - 1) (2 ^ K)
            have h2 := Nat.two_pow_pos K
            omega
          have hcz : cv * zz ≤ 31 * 32 := Nat.mul_le_mul (by omega) (by omega)
          have hW2m : W2 ≤ mk := by
            obtain ⟨⟨_, _, _, _, W3, e3, h3, _⟩, _⟩ := hfN
            omega
          obtain ⟨sv, hsv⟩ : ∃ x : Nat, x = cv * zz := ⟨_, rfl⟩
          rw [← hsv] at hwaste hcz
          have w1 : IntKind.i64.wrap ((cv : Int) * 2 ^ K) = (sv : Int) := by
            have e1 : (cv : Int) * 2 ^ K = (sv : Int) := by rw [hzc, hsv]; simp
            rw [e1, IntWalk.i64_in _ (by omega)]
          have w2 : IntKind.i64.wrap ((2 : Int) ^ K) = (zz : Int) := by rw [hzc, IntWalk.i64_in _ (by omega)]
          have w3 : IntKind.i64.wrap ((sv : Int) - W2) = (sv : Int) - W2 := IntWalk.i64_in _ (by omega)
          have hmin : min (IntKind.u64.wrap (K : Int)).toNat 64 = K := by rw [IntKind.wrap_u64]; omega
          have HMIN := Lib.hid hmin
          clear hmin
          have w5 : (W : Int) + k = W2 := by omega
          have w6 : IntKind.i64.wrap (W2 : Int) = W2 := IntWalk.i64_in _ (by omega)
          obtain ⟨AD, hAD⟩ : ∃ z, z = addrP G2 K p W := ⟨_, rfl⟩
          rw [← hAD] at hx0 hxv had0 had1 ⊢
          rw [w5]
          have HX0 := Lib.hid hx0
          have HXV := Lib.hid hxv
          have HVN := Lib.hid hvN
          have HFN := Lib.hid hfN
          have HONE2 := Lib.hid hone2
          have HINC := Lib.hid (show incB K mk (fun _ => 0) n G2 4 1 p la2 W2 = true from incB_mk hvN (by rw [Int.toNat_natCast]; exact hfN))
          have HUSED := Lib.hid hused
          have hlt2 : W < W2 := by omega
          obtain ⟨X2, hX⟩ : ∃ X, X = (X1.alloc (.cells #[.int .i64 K, .slice A1 mk c1, .slice (some ⟨g1, 0, none⟩) n c2] 25)).alloc (.cells #[.int .i64 4, .int .i64 1, .int .i64 p, .int .i64 la2, .int .i64 W2] 27) := ⟨_, rfl⟩
          have hbx : Below R1.heap.size R1 X2 := by rw [hX]; exact below_alloc9 (below_alloc9 hb _) _
          have BX := Lib.hid (show Blk X2 X1.heap.size 25 #[.int .i64 K, .slice A1 mk c1, .slice (some ⟨g1, 0, none⟩) n c2] by rw [hX]; exact (Blk.new _ _ _).alloc _)
          have BN := Lib.hid (show Blk X2 (X1.heap.size + 1) 27 #[.int .i64 4, .int .i64 1, .int .i64 p, .int .i64 la2, .int .i64 W2] by rw [hX]; exact Blk.newAt _ _ _ _ (by simp))
          have HO2 := Lib.hid (show Own X2 R1.heap.size A1 mk c1 (fun _ => 0) by rw [hX]; exact (ho.alloc9 _).alloc9 _)
          have HT2 := Lib.hid (show OwnT X2 R1.heap.size (some ⟨g1, 0, none⟩) n c2 G2 by rw [hX]; exact (ht.alloc9 _).alloc9 _)
          have BS2 := Lib.hid (BS1.out.next hbx)
          have BI2 := Lib.hid (BI1.out.next hbx)
          have HB2 := Lib.hid (below_next HB1.out (by have := HB1.out.size; omega) hbx)
          have HDK2 := Lib.hid (HDK1.out.next hbx)
          have zR1 := hbx.size
          have zX1 : R1.heap.size ≤ X1.heap.size := hb.size
          have zd1 := HDK1.out.lt
          have HX := Lib.hid hX
          clear hX hbx hb ho ht p0 p1 p2 q0 q1 q2 q3 q4 zs zi hE hW' hD' hx hst hcov hpos hx0 hxv hvN hfN hone2 hused hcn hgr hcv hzz hzc hsv hAD hW2 hk s1 v0 v1 d1 d2 HI HO1 HT1 BS1 BI1 HB1 HDK1 HD1
          go_upto_region 13 with fail
          rw [← HX.out]
          have x0 := BX.out.cell 0
          have x1 := BX.out.cell 1
          have x2 := BX.out.cell 2
          simp at x0 x1 x2
          have y0 := BN.out.cell 0
          have y1 := BN.out.cell 1
          have y2 := BN.out.cell 2
          have y3 := BN.out.cell 3
          have y4 := BN.out.cell 4
          simp at y0 y1 y2 y3 y4
          have q0 := BI2.out.cell 0
          have q1 := BI2.out.cell 1
          have q2 := BI2.out.cell 2
          have q3 := BI2.out.cell 3
          have q4 := BI2.out.cell 4
          simp at q0 q1 q2 q3 q4
          have zx : X1.heap.size < X2.heap.size := BX.out.lt
          have zy : X1.heap.size + 1 < X2.heap.size := BN.out.lt
          have zi : bi < X2.heap.size := BI2.out.lt
          have hc : Below X2.heap.size X2 X2.drew := (Below.refl _ _).drew
          go_cut [96] (fun q wx => q = .bool false ∧ Below X2.heap.size X2 wx)
          case first =>
            go_region_held3 (fun w' => w'.cell? ⟨X1.heap.size, 0, none⟩ = some (.int .i64 K) ∧ w'.cell? ⟨X1.heap.size, 1, none⟩ = some (.slice A1 mk c1) ∧ w'.cell? ⟨X1.heap.size, 2, none⟩ = some (.slice (some ⟨g1, 0, none⟩) n c2) ∧ w'.cell? ⟨X1.heap.size + 1, 0, none⟩ = some (.int .i64 4) ∧ w'.cell? ⟨X1.heap.size + 1, 1, none⟩ = some (.int .i64 1) ∧ w'.cell? ⟨X1.heap.size + 1, 2, none⟩ = some (.int .i64 p) ∧ w'.cell? ⟨X1.heap.size + 1, 3, none⟩ = some (.int .i64 la2) ∧ w'.cell? ⟨X1.heap.size + 1, 4, none⟩ = some (.int .i64 W2) ∧ w'.cell? ⟨bi, 0, none⟩ = some (.int .i64 4) ∧ w'.cell? ⟨bi, 1, none⟩ = some (.int .i64 1) ∧ w'.cell? ⟨bi, 2, none⟩ = some (.int .i64 fi) ∧ w'.cell? ⟨bi, 3, none⟩ = some (.int .i64 la) ∧ w'.cell? ⟨bi, 4, none⟩ = some (.int .i64 W))
              (first | (with_reducible exact ⟨(hc.cell (p := ⟨_, 0, none⟩) zx).trans x0, (hc.cell (p := ⟨_, 1, none⟩) zx).trans x1, (hc.cell (p := ⟨_, 2, none⟩) zx).trans x2, (hc.cell (p := ⟨_, 0, none⟩) zy).trans y0, (hc.cell (p := ⟨_, 1, none⟩) zy).trans y1, (hc.cell (p := ⟨_, 2, none⟩) zy).trans y2, (hc.cell (p := ⟨_, 3, none⟩) zy).trans y3, (hc.cell (p := ⟨_, 4, none⟩) zy).trans y4, (hc.cell (p := ⟨_, 0, none⟩) zi).trans q0, (hc.cell (p := ⟨_, 1, none⟩) zi).trans q1, (hc.cell (p := ⟨_, 2, none⟩) zi).trans q2, (hc.cell (p := ⟨_, 3, none⟩) zi).trans q3, (hc.cell (p := ⟨_, 4, none⟩) zi).trans q4⟩) | go_keep)
              (first
                | (go_at_call 16; refine (refInc_any K A1 (some ⟨g1, 0, none⟩) mk c1 n c2 (fun _ => 0) G2 4 1 p la2 W2 _ (HO2.out.arr.next hc) (HT2.out.tab.next hc)).mono ?_; rintro e wq ⟨rfl, hb⟩; rw [HINC.out]; have hc := below_next hc (Nat.le_refl _) hb)
                | (go_at_call 33; refine (refUsed_any K (.slice A1 mk c1) (some ⟨g1, 0, none⟩) n c2 G2 _ (HT2.out.tab.next hc) (by omega)).mono ?_; rintro e wq ⟨rfl, hb⟩; rw [HUSED.out]; have hc := below_next hc (Nat.le_refl _) hb))
            all_goals
              have HCC := Lib.hid hc
              clear hc
              go_wp2
              go_meet
              exact ⟨by rw [HMIN.out, w1, w2, w3]; exact congrArg Value.bool (decide_eq_false (by omega)), HCC.out⟩
          case rest =>
            obtain ⟨Z, rfl⟩ : ∃ Z, Z = wc := ⟨_, rfl⟩
            obtain ⟨rfl, hcut⟩ := hcut
            have BX3 := Lib.hid (BX.out.next hcut)
            have BN3 := Lib.hid (BN.out.next hcut)
            have HO3 := Lib.hid (HO2.out.below hcut)
            have HT3 := Lib.hid (HT2.out.below hcut)
            have BS3 := Lib.hid (BS2.out.next hcut)
            have BI3 := Lib.hid (BI2.out.next hcut)
            have HB3 := Lib.hid (below_next HB2.out (by have := HB2.out.size; omega) hcut)
            have HDK3 := Lib.hid (HDK2.out.next hcut)
            have zZ := hcut.size
            clear hcut hc x0 x1 x2 y0 y1 y2 y3 y4 q0 q1 q2 q3 q4 zx zy zi BX BN HO2 HT2 BS2 BI2 HB2 HDK2
            have x0 := BX3.out.cell 0
            have x1 := BX3.out.cell 1
            have x2 := BX3.out.cell 2
            simp at x0 x1 x2
            have y0 := BN3.out.cell 0
            have y1 := BN3.out.cell 1
            have y2 := BN3.out.cell 2
            have y3 := BN3.out.cell 3
            have y4 := BN3.out.cell 4
            simp at y0 y1 y2 y3 y4
            have q0 := BI3.out.cell 0
            have q1 := BI3.out.cell 1
            have q2 := BI3.out.cell 2
            have q3 := BI3.out.cell 3
            have q4 := BI3.out.cell 4
            simp at q0 q1 q2 q3 q4
            have zx : X1.heap.size < Z.heap.size := BX3.out.lt
            have zy : X1.heap.size + 1 < Z.heap.size := BN3.out.lt
            have zi : bi < Z.heap.size := BI3.out.lt
            go_wp2_with fail
            refine (refIndex5_any K A1 (some ⟨g1, 0, none⟩) mk c1 n c2 (fun _ => 0) G2 p AD Z HO3.out.arr HT3.out.tab (by omega) (by omega)).mono ?_
            rintro e Z2 ⟨rfl, hb⟩
            rw [HX0.out, HXV.out]
            have BX4 := Lib.hid (BX3.out.next hb)
            have BN4 := Lib.hid (BN3.out.next hb)
            have HO4 := Lib.hid (HO3.out.below hb)
            have HT4 := Lib.hid (HT3.out.below hb)
            have BS4 := Lib.hid (BS3.out.next hb)
            have BI4 := Lib.hid (BI3.out.next hb)
            have HB4 := Lib.hid (below_next HB3.out (by have := HB3.out.size; omega) hb)
            have HDK4 := Lib.hid (HDK3.out.next hb)
            have zZ2 := hb.size
            clear hb x0 x1 x2 y0 y1 y2 y3 y4 q0 q1 q2 q3 q4 zx zy zi
            have x0 := BX4.out.cell 0
            have x1 := BX4.out.cell 1
            have x2 := BX4.out.cell 2
            simp at x0 x1 x2
            have y0 := BN4.out.cell 0
            have y1 := BN4.out.cell 1
            have y2 := BN4.out.cell 2
            have y3 := BN4.out.cell 3
            have y4 := BN4.out.cell 4
            simp at y0 y1 y2 y3 y4
            have q0 := BI4.out.cell 0
            have q1 := BI4.out.cell 1
            have q2 := BI4.out.cell 2
            have q3 := BI4.out.cell 3
            have q4 := BI4.out.cell 4
            simp at q0 q1 q2 q3 q4
            have qf0 := BI4.out.frozen 0
            have qf1 := BI4.out.frozen 1
            have qf2 := BI4.out.frozen 2
            have qf3 := BI4.out.frozen 3
            have qf4 := BI4.out.frozen 4
            have p0 := BS4.out.cell 0
            have p1 := BS4.out.cell 1
            have p2 := BS4.out.cell 2
            simp at p0 p1 p2
            have pf0 := BS4.out.frozen 0
            have pf1 := BS4.out.frozen 1
            have pf2 := BS4.out.frozen 2
            have zx : X1.heap.size < Z2.heap.size := BX4.out.lt
            have zy : X1.heap.size + 1 < Z2.heap.size := BN4.out.lt
            have zi : bi < Z2.heap.size := BI4.out.lt
            have zs : bs < Z2.heap.size := BS4.out.lt
            have zsR : bs < R1.heap.size := by omega
            have ziR : bi < R1.heap.size := by omega
            have n1 : X1.heap.size ≠ bs := by omega
            have n2 : X1.heap.size + 1 ≠ bs := by omega
            have n3 : X1.heap.size ≠ bi := by omega
            have n4 : X1.heap.size + 1 ≠ bi := by omega
            have zdR : dk < R1.heap.size := zd1
            have hWb : (W : Int) + k = W2 := w5
            obtain ⟨P, hP⟩ : ∃ P, P = (((((((Z2.setCell ⟨bs, 0, none⟩ (.int .i64 K)).setCell ⟨bs, 1, none⟩ (.slice A1 mk c1)).setCell ⟨bs, 2, none⟩ (.slice (some ⟨g1, 0, none⟩) n c2)).setCell ⟨bi, 0, none⟩ (.int .i64 4)).setCell ⟨bi, 1, none⟩ (.int .i64 1)).setCell ⟨bi, 2, none⟩ (.int .i64 p)).setCell ⟨bi, 3, none⟩ (.int .i64 la2)).setCell ⟨bi, 4, none⟩ (.int .i64 W2) := ⟨_, rfl⟩
            have BSP : Blk P bs 25 #[.int .i64 K, .slice A1 mk c1, .slice (some ⟨g1, 0, none⟩) n c2] := by rw [hP]; exact (BS4.out.set3 _ _ _).turn5 hne _ _ _ _ _
            have BIP : Blk P bi 27 #[.int .i64 4, .int .i64 1, .int .i64 p, .int .i64 la2, .int .i64 W2] := by rw [hP]; exact (BI4.out.far3 (fun e => hne e.symm) _ _ _).set5 _ _ _ _ _
            have HOP : Own P R1.heap.size A1 mk c1 (fun _ => 0) := by rw [hP]; exact HO4.out.put8 zsR ziR _ _ _ _ _ _ _ _
            have HTP : OwnT P R1.heap.size (some ⟨g1, 0, none⟩) n c2 G2 := by rw [hP]; exact HT4.out.put8 zsR ziR _ _ _ _ _ _ _ _
            have HDP : DeckP P dk := by rw [hP]; exact HDK4.out.put8 hdl.1 hdl.2 _ _ _ _ _ _ _ _
            have HBP : Below w.heap.size w P := by rw [hP]; exact below_put8 HB4.out (by have := HDKE.out; have := hdl.1; omega) (by have := HDKE.out; have := hdl.2; omega) _ _ _ _ _ _ _ _
            have zP : P.heap.size = Z2.heap.size := by rw [hP]; simp
            have REL := Lib.hid (show WstAt K n mk dk bs bi w P.drew from ⟨p, la2, W2, R1.heap.size, G2, A1, c1, _, c2, HDP.next ((Below.refl _ _).drew), zdR, by show R1.heap.size ≤ P.heap.size; omega, BSP, BIP, HOP.drew, HTP.drew, HVN.out, HFN.out, fun e => by omega, HONE2.out, hW2m, HBP.drew⟩)
            have HMS := Lib.hid (show mk - (intOf ((P.drew.cell? ⟨bi, 4, none⟩).getD undef)).toNat < mk - (intOf ((R.cell? ⟨bi, 4, none⟩).getD undef)).toNat by
              rw [HMEAS.out, show P.drew.cell? ⟨bi, 4, none⟩ = _ from BIP.cell 4]
              simp [intOf]
              omega)
            rw [hP] at REL HMS
            clear hP BSP BIP HOP HTP HDP HBP zP
            go_upto_region 18 with fail
            go_region
            go_wp2
            exact ⟨REL.out, HMS.out⟩
end Go.Proofs.YthlkodhkhkdggaaDoor
