/-
  The walk of WalkGrows. (Made by mkwlk-s10.py.)
-/
import Derived.Test.YthcfcciemjkilaaWaw
import Derived.Test.YthcfcciemjkilaaGvp
import Derived.Deep.RegionHeld3
import Derived.Deep.DeepCutAuto
import Derived.Deep.CutBlock
namespace Go.Proofs.Ythcfcciemjkilaa
open Go.RowKit
set_option maxRecDepth 100000
set_option linter.unusedVariables false

/-- The law of append to a row of one's own, for an operation whose guard lets it through. -/
theorem wpList_append_ownG {P : Program} (w : World) {ops : Array Oper} {rest : List Oper} {o : Oper} {a : Act} {Q : Exit → Act → World → Prop} (hgd : Region.wanted o (yielded ops a.tmps) = true) (s x : Operand) (t : TypeId)
    (ho : o.op = .call { callee := .builtin .append, args := #[s, x], argTypes := #[t, t] })
    (base : Nat) (e : TypeId) (i : TypeInfo) (z : Value) (size bytes : Nat) (ht : P.underlying t = some (.slice e)) (hi : P.info? e = some i) (hz : i.zero = some z)
    (hsize : i.size = size) (hby : i.bytes = bytes) (hzs : z.cells.size = size) (hsz : 0 < size)
    (v : Value) (n : Nat) (xs : List Value) (hs : a.eval s = v) (hown : w.ownsRow base e size v n xs)
    (ad : Addr) (m c : Nat) (news : List Value) (hx : a.eval x = .slice (some ad) m c) (hl : news.length = m * size) (hnews : ∀ j u, news[j]? = some u → w.cell? (ad.add j) = some u) (h1 : ∀ u ∈ news, u.oneCell' = true)
    (h63 : n + m ≤ maxLen) (hbytes : (n + m) * bytes ≤ 140737488355328) (hbase : base ≤ w.heap.size)
    (h : ∀ v' w', w'.ownsRow base e size v' (n + m) (xs ++ news) → w.grownBy w' v.ownBlock → (v' = .slice none 0 0 ↔ v = .slice none 0 0 ∧ m = 0) → wpList P ops Q rest (a.put o.dst v') w') : wpList P ops Q (o :: rest) a w :=
  wpList_step fun K hK => by
    rw [if_pos hgd]
    exact wp_append_own w s x t ho base e i z size bytes ht hi hz hsize hby hzs hsz v n xs hs hown ad m c news hx hl hnews h1 h63 hbytes hbase fun v' w' h2 h3 h4 => hK _ _ (h v' w' h2 h3 h4)

set_option maxHeartbeats 40000000 in
theorem walkWGrows (Al : Option Addr) (nl cl : Nat) (which refs data : Int) (w : World) (hL : ListP w w.heap.size Al nl cl) (which0 : -9223372036854775808 ≤ which) (which1 : which ≤ 9223372036854775807) (refs0 : -9223372036854775808 ≤ refs) (refs1 : refs ≤ 9223372036854775807) (data0 : -9223372036854775808 ≤ data) (data1 : data ≤ 9223372036854775807) :
    Calls Try.prog 5 #[.slice Al nl cl, .int .i64 which, .int .i64 refs, .int .i64 data] w fun e w' => e = .returned (.bool true) ∧ Below w.heap.size w w' := by
  have HL := Lib.hid hL
  clear hL
  go_enter Try.func5, Try.ntmps5
  go_wp2_with fail
  refine (deck_any Al nl cl w HL.out).mono ?_
  rintro e U2 ⟨rfl, hd, hb, hz⟩
  have HDK := Lib.hid hd
  have HBU2 := Lib.hid hb
  clear hd hb
  go_wp2_with fail
  refine (spaceX_any w.heap.size U2 HDK.out).mono ?_
  rintro e U3 ⟨K, m, B, d, gb, d', wd, F, L, rfl, kk0, kk1, m0, m1, hoA, hoT, ⟨hvp, how, hu⟩, ⟨_, I, BI', hBI, hLR, hAll, hRun⟩, hG⟩
  have HBU3 := Lib.hid (below_turn HBU2.out hG (by omega))
  have HVP := Lib.hid hvp
  have HU64 := Lib.hid hu
  have HALL := Lib.hid hAll
  have HRUN := Lib.hid hRun
  have hmk0 : 0 < m * 2 ^ K := Nat.mul_pos (by omega) (Nat.two_pow_pos K)
  have hmk1 : m * 2 ^ K ≤ 16384 := prod_le (by omega) (by omega)
  obtain ⟨mk, hmk⟩ : ∃ mk, mk = m * 2 ^ K := ⟨_, rfl⟩
  rw [← hmk] at hoA HVP HU64 hmk0 hmk1 ⊢
  have HMK := Lib.hid hmk
  obtain ⟨V, hV⟩ : ∃ V, V = U3.alloc (.cells #[.int .i64 K, .slice B mk d, .slice (some ⟨gb, 0, none⟩) m d'] 25) := ⟨_, rfl⟩
  have hbv : Below U3.heap.size U3 V := by rw [hV]; exact (Below.refl _ _).alloc (Nat.le_refl _) _
  obtain ⟨SB, hSB⟩ : ∃ b, b = U3.heap.size := ⟨_, rfl⟩
  have BY := Lib.hid (show Blk V SB 25 #[.int .i64 K, .slice B mk d, .slice (some ⟨gb, 0, none⟩) m d'] by rw [hV, hSB]; exact Blk.new _ _ _)
  have HBV := Lib.hid (below_next HBU3.out (Nat.le_refl _) hbv)
  have HSA := Lib.hid (hoA.arr.next hbv)
  have HST := Lib.hid (hoT.tab.next hbv)
  have HLV := Lib.hid (hLR.below hbv)
  have hI17 := allP_len hAll
  have HVV := Lib.hid hV
  have HSB := Lib.hid hSB
  obtain ⟨LA, LC, hLe, hlc⟩ := row_slice hLR.1
  subst hLe
  obtain ⟨li, hli⟩ : ∃ x, x = I.length := ⟨_, rfl⟩
  have HROW := Lib.hid (show ∀ t i, I[t]? = some i → ∃ g cap, Value.slice LA I.length LC = .slice (some ⟨g, 0, none⟩) I.length cap ∧ BI' ≤ g ∧ g < U3.heap.size ∧ g < V.heap.size ∧ V.cell? ⟨g, t * 5, none⟩ = some (.int .i64 i.sq) ∧ V.cell? ⟨g, t * 5 + 1, none⟩ = some (.int .i64 i.bt) ∧ V.cell? ⟨g, t * 5 + 2, none⟩ = some (.int .i64 i.fi) ∧ V.cell? ⟨g, t * 5 + 3, none⟩ = some (.int .i64 i.la) ∧ V.cell? ⟨g, t * 5 + 4, none⟩ = some (.int .i64 i.wo) from fun t i h => lrow_cells HLV.out h)
  have HLI := Lib.hid hli
  rw [← hli] at hI17 hlc ⊢
  clear hV hSB hbv hG HBU2 HDK hz hoA hoT hmk hvp how hu hLR hAll hRun hBI hli HLV
  by_cases hl0 : li = 0
  · subst hl0
    go_wp2_with (go_at_call 7; rw [← HVV.out]; refine (awake10_any _).mono ?_; rintro e w6 ⟨rfl, b6⟩; have HB6 := Lib.hid b6; clear b6)
    go_ret
    exact ⟨rfl, below_next HBV.out (Nat.le_refl _) HB6.out⟩
  have hlb : ((li : Int) == 0) = false := by simp; omega
  have hmod := Int.emod_nonneg which (show (li : Int) ≠ 0 by omega)
  have hmod2 := Int.emod_lt_of_pos which (show 0 < (li : Int) by omega)
  obtain ⟨z, hz⟩ : ∃ z : Nat, which % (li : Int) = z := ⟨(which % (li : Int)).toNat, by omega⟩
  rw [hz] at hmod hmod2
  have HZ := Lib.hid hz
  clear hz hl0
  have hzl : z < I.length := by rw [← HLI.out]; omega
  obtain ⟨g, cap, hE, _, _, hg, x0, x1, x2, x3, x4⟩ := HROW.out z I[z] (List.getElem?_eq_getElem hzl)
  injection hE with hE1 _ hE2
  subst hE1
  obtain ⟨hinc, hwo, _⟩ := HALL.out z I[z] (List.getElem?_eq_getElem hzl)
  have hrun := HRUN.out z I[z] (List.getElem?_eq_getElem hzl)
  obtain ⟨sq, hsq⟩ : ∃ x, x = I[z].sq := ⟨_, rfl⟩
  obtain ⟨bt, hbt⟩ : ∃ x, x = I[z].bt := ⟨_, rfl⟩
  obtain ⟨fi, hfi⟩ : ∃ x, x = I[z].fi := ⟨_, rfl⟩
  obtain ⟨la, hla⟩ : ∃ x, x = I[z].la := ⟨_, rfl⟩
  obtain ⟨wo, hwo'⟩ : ∃ x, x = I[z].wo := ⟨_, rfl⟩
  rw [← hsq] at hinc x0
  rw [← hbt] at hinc x1
  rw [← hfi] at hinc x2 hrun
  rw [← hla] at hinc x3
  rw [← hwo'] at hinc hwo x4 hrun
  have HWO := Lib.hid hwo
  have hz2 : 0 ≤ (z : Int) ∧ (z : Int) < li := by omega
  have HFIT := Lib.hid (inc_fits hinc hwo HMK.out).1
  obtain ⟨W, hW⟩ : ∃ W : Nat, wo = W := ⟨wo.toNat, by omega⟩
  have hrun2 := hrun
  rw [hW] at hrun2
  obtain ⟨j, hh, hp, hob⟩ := hrun2.objs
  have hox : ObjsX K mk wd m F sq bt fi la wo (lstN K wd F fi j) 0 := .inr ⟨incB_mk HVP.out (by rw [Int.toNat_natCast]; exact HFIT.out), by rw [hW, Int.toNat_natCast, Int.toNat_natCast]; exact hob⟩
  have HHD := Lib.hid hh
  have HPS := Lib.hid hp
  have HWW := Lib.hid hW
  obtain ⟨l, hl⟩ : ∃ l, l = lstN K wd F fi j := ⟨_, rfl⟩
  rw [← hl] at hox
  have HOX := Lib.hid hox
  have HLL := Lib.hid hl
  have hlen := objsX_small hox
  clear hsq hbt hfi hla hwo' hinc hwo HROW HALL HRUN hrun hrun2 hW hh hp hob hox hl
  obtain ⟨X, hX⟩ : ∃ X, X = V.alloc (.cells #[.int .i64 sq, .int .i64 bt, .int .i64 fi, .int .i64 la, .int .i64 wo] 27) := ⟨_, rfl⟩
  have hbx : Below V.heap.size V X := by rw [hX]; exact (Below.refl _ _).alloc (Nat.le_refl _) _
  obtain ⟨JB, hJB⟩ : ∃ b, b = V.heap.size := ⟨_, rfl⟩
  have BJ := Lib.hid (show Blk X JB 27 #[.int .i64 sq, .int .i64 bt, .int .i64 fi, .int .i64 la, .int .i64 wo] by rw [hX, hJB]; exact Blk.new _ _ _)
  have BY5 := Lib.hid (BY.out.next hbx)
  have HBX := Lib.hid (below_next HBV.out (Nat.le_refl _) hbx)
  have HSA5 := Lib.hid (HSA.out.next hbx)
  have HST5 := Lib.hid (HST.out.next hbx)
  have HXX := Lib.hid hX
  have HJB := Lib.hid hJB
  clear hX hJB hbx BY HSA HST
  go_upto_region 5 with (go_at_call 10; rw [← HVV.out]; refine (mod_any which (li : Int) (by omega) (by omega) which0 which1 _).mono ?_; rintro e w' ⟨rfl, rfl⟩; rw [HZ.out])
  rw [← HXX.out]
  try rw [← HJB.out]
  try rw [← HSB.out]
  clear HXX HJB HSB HVV hlb hmod hmod2 hg x0 x1 x2 x3 x4 hz2
  obtain ⟨i0, hi0, hz0, hz1, hz2⟩ := info_parts int_info
  obtain ⟨R, hR, hR1⟩ : ∃ R : Nat, refs % 16 = R ∧ R ≤ 15 := ⟨(refs % 16).toNat, by omega, by omega⟩
  obtain ⟨D, hD, hD1⟩ : ∃ D : Nat, data % 33 = D ∧ D ≤ 32 := ⟨(data % 33).toNat, by omega, by omega⟩
  have CM1 := mod_any refs 16 (by decide) (by decide) refs0 refs1
  have CM2 := mod_any data 33 (by decide) (by decide) data0 data1
  rw [hR] at CM1
  rw [hD] at CM2
  clear hR hD
  have CA : Calls Try.prog 19 #[.agg #[.int .i64 K, .slice B mk d, .slice (some ⟨gb, 0, none⟩) m d'], .agg #[.int .i64 sq, .int .i64 bt, .int .i64 fi, .int .i64 la, .int .i64 wo], .int .i64 (1 + (R : Int) + D)] X (AllX K mk wd m F sq bt fi la wo ((1 + R + D : Nat) : Int) X) := by
    rw [show (1 + (R : Int) + D) = ((1 + R + D : Nat) : Int) by omega]
    exact refAll9_any K B (some ⟨gb, 0, none⟩) mk d m d' wd F sq bt fi la wo ((1 + R + D : Nat) : Int) X HSA5.out HST5.out
  have p0 := BY5.out.cell 0
  have p1 := BY5.out.cell 1
  have p2 := BY5.out.cell 2
  have pz := BY5.out.lt
  simp at p0 p1 p2
  have q0 := BJ.out.cell 0
  have q1 := BJ.out.cell 1
  have q2 := BJ.out.cell 2
  have q3 := BJ.out.cell 3
  have q4 := BJ.out.cell 4
  have qz := BJ.out.lt
  simp at q0 q1 q2 q3 q4
  go_wp2_with fail
  refine (CM1 _).mono ?_
  rintro e w' ⟨rfl, rfl⟩
  go_wp2_with fail
  refine (CM2 _).mono ?_
  rintro e w' ⟨rfl, rfl⟩
  go_wp2_with fail
  refine CA.mono ?_
  clear CA CM1 CM2
  rintro e V1 (⟨x, _, hx2, rfl, hb⟩ | ⟨h0, A1, c1, g1, c2, rfl, ho, ht, hb⟩)
  · have hx3 : (x != 0) = true := by simpa using hx2
    have HB1 := Lib.hid (below_next HBX.out (Nat.le_refl _) hb)
    clear hb hx2 p0 p1 p2 pz q0 q1 q2 q3 q4 qz
    go_wp2_with (go_at_call 7; refine (awake10_any _).mono ?_; rintro e w9 ⟨rfl, hb9⟩)
    go_ret
    exact ⟨rfl, below_next (below_alloc9 (below_alloc9 HB1.out _) _) (Nat.le_refl _) hb9⟩
  · obtain ⟨F', fi', la', hg⟩ : ∃ F' fi' la', allG K m F sq bt fi la wo ((1 + R + D : Nat) : Int) = ⟨F', fi', la'⟩ := ⟨_, _, _, rfl⟩
    rw [hg] at ht ⊢
    dsimp only at ht ⊢
    obtain ⟨wd', hwd', hin, hv', hfit', hu', hh', hp', hl', hox', ha0, ha1⟩ := grow_objs h0 hg HU64.out hR1 hD1 HWW.out HHD.out HPS.out
    obtain ⟨P, hP⟩ : ∃ P : Nat, addrP F' K fi' W = P := ⟨(addrP F' K fi' W).toNat, by omega⟩
    have hPP : addrP F' (K : Int).toNat fi' wo.toNat = (P : Int) := by rw [Int.toNat_natCast, HWW.out, Int.toNat_natCast]; exact hP
    rw [hPP]
    rw [hP] at hwd' hin hox' ha0 ha1
    rw [← HLL.out, Int.toNat_natCast] at hox'
    obtain ⟨wn, hwn⟩ : ∃ wn, wn = wo + ((1 + R + D : Nat) : Int) := ⟨_, rfl⟩
    rw [← hwn]
    rw [show ((W + (1 + R + D) : Nat) : Int) = wn by have := HWW.out; omega] at hox'
    have hPb : -9223372036854775808 ≤ (P : Int) ∧ (P : Int) ≤ 9223372036854775807 := by omega
    have HOX2 := Lib.hid hox'
    have HIN := Lib.hid hin
    have HWD := Lib.hid hwd'
    have HU2 := Lib.hid hu'
    obtain ⟨V2, hV2⟩ : ∃ V2, V2 = (V1.alloc (.cells #[.int .i64 K, .slice A1 mk c1, .slice (some ⟨g1, 0, none⟩) m c2] 25)).alloc (.cells #[.int .i64 sq, .int .i64 bt, .int .i64 fi', .int .i64 la', .int .i64 wn] 27) := ⟨_, rfl⟩
    have hb2 : Below X.heap.size X V2 := by rw [hV2]; exact below_alloc9 (below_alloc9 hb _) _
    have BT := Lib.hid (show Blk V2 V1.heap.size 25 #[.int .i64 K, .slice A1 mk c1, .slice (some ⟨g1, 0, none⟩) m c2] by rw [hV2]; exact (Blk.new _ _ _).alloc _)
    have BN := Lib.hid (show Blk V2 (V1.heap.size + 1) 27 #[.int .i64 sq, .int .i64 bt, .int .i64 fi', .int .i64 la', .int .i64 wn] by rw [hV2]; exact Blk.newAt _ _ _ _ (by simp))
    have HA2 := Lib.hid (show Arr V2 V2.heap.size A1 mk c1 wd by rw [hV2]; exact ((ho.alloc9 _).alloc9 _).arr)
    have HT2 := Lib.hid (show Tab V2 V2.heap.size (some ⟨g1, 0, none⟩) m c2 F' by rw [hV2]; exact ((ht.alloc9 _).alloc9 _).tab)
    have HB2 := Lib.hid hb2
    have HV2 := Lib.hid hV2
    have zX : X.heap.size ≤ V1.heap.size := hb.size
    have zSB := BY5.out.lt
    have zJB := BJ.out.lt
    have zT := BT.out.lt
    have zN := BN.out.lt
    clear hg h0 hv' hfit' hh' hp' hl' hox' hin hwd' hu' hP hPP hwn hV2 ho ht hb hb2 p0 p1 p2 pz q0 q1 q2 q3 q4 qz HWW HHD HPS HLL ha0 ha1
    go_upto_region 9 with fail
    rw [← HV2.out]
    have p0 := BT.out.cell 0
    have p1 := BT.out.cell 1
    have p2 := BT.out.cell 2
    have pz := BT.out.lt
    simp at p0 p1 p2
    have CI := refInit_any (K : Int) A1 (some ⟨g1, 0, none⟩) mk c1 m c2 wd F' P R D V2 HA2.out HT2.out (by omega) (by omega) (by omega) (by omega)
    go_wp2_with fail
    refine CI.mono ?_
    clear CI
    rintro e Y1 (⟨y, h1, h2, _⟩ | ⟨_, A5, c5, g5, c6, rfl, ho, ht, hb⟩)
    · exact absurd (h1.symm.trans HIN.out) h2
    rw [show ((R : Int) + D).toNat = R + D by omega, ← HWD.out] at ho
    have T := BT.out.next hb
    have N := BN.out.next hb
    have Y0 := BY5.out.next (below_next HB2.out (Nat.le_refl _) hb)
    have J0 := BJ.out.next (below_next HB2.out (Nat.le_refl _) hb)
    clear p0 p1 p2 pz
    have x0 := T.cell 0
    have x1 := T.cell 1
    have x2 := T.cell 2
    have xf0 := T.frozen 0
    have xf1 := T.frozen 1
    have xf2 := T.frozen 2
    have xz := T.lt
    simp at x0 x1 x2
    obtain ⟨Y, hY⟩ : ∃ Y, Y = ((Y1.setCell ⟨V1.heap.size, 0, none⟩ (.int .i64 K)).setCell ⟨V1.heap.size, 1, none⟩ (.slice A5 mk c5)).setCell ⟨V1.heap.size, 2, none⟩ (.slice (some ⟨g5, 0, none⟩) m c6) := ⟨_, rfl⟩
    have BTY := Lib.hid (show Blk Y V1.heap.size 25 #[.int .i64 K, .slice A5 mk c5, .slice (some ⟨g5, 0, none⟩) m c6] by rw [hY]; exact T.set3 _ _ _)
    have BNY := Lib.hid (show Blk Y (V1.heap.size + 1) 27 #[.int .i64 sq, .int .i64 bt, .int .i64 fi', .int .i64 la', .int .i64 wn] by rw [hY]; exact N.far3 (by omega) _ _ _)
    have BYY := Lib.hid (show Blk Y SB 25 #[.int .i64 K, .slice B mk d, .slice (some ⟨gb, 0, none⟩) m d'] by rw [hY]; exact Y0.far3 (by omega) _ _ _)
    have BJY := Lib.hid (show Blk Y JB 27 #[.int .i64 sq, .int .i64 bt, .int .i64 fi, .int .i64 la, .int .i64 wo] by rw [hY]; exact J0.far3 (by omega) _ _ _)
    have hbY : Below X.heap.size X Y := by rw [hY]; exact below_put3 (below_next HB2.out (Nat.le_refl _) hb) zX _ _ _
    have HAY := Lib.hid (show Arr Y Y.heap.size A5 mk c5 wd' by rw [hY]; exact (ho.put3 zT _ _ _).arr)
    have HTY := Lib.hid (show Tab Y Y.heap.size (some ⟨g5, 0, none⟩) m c6 F' by rw [hY]; exact (ht.put3 zT _ _ _).tab)
    have HSY := Lib.hid (HSA5.out.next hbY)
    have HUY := Lib.hid (HST5.out.next hbY)
    have HBY := Lib.hid (below_next HBX.out (Nat.le_refl _) hbY)
    have HYY := Lib.hid hY
    clear hY hbY ho ht hb T N Y0 J0 HSA5 HST5 HBX HB2 BT BN BY5 BJ HA2 HT2 HV2 zX zSB zJB zT zN
    go_upto_region 10 with fail
    rw [← HYY.out]
    clear x0 x1 x2 xf0 xf1 xf2 xz
    have p0 := BYY.out.cell 0
    have p1 := BYY.out.cell 1
    have p2 := BYY.out.cell 2
    have pz := BYY.out.lt
    simp at p0 p1 p2
    have q0 := BJY.out.cell 0
    have q1 := BJY.out.cell 1
    have q2 := BJY.out.cell 2
    have q3 := BJY.out.cell 3
    have q4 := BJY.out.cell 4
    have qz := BJY.out.lt
    simp at q0 q1 q2 q3 q4
    have CO := objs10_row (s := (K : Int)) B (some ⟨gb, 0, none⟩) d d' Y HSY.out HUY.out HU64.out HOX.out
    go_wp2_with fail
    refine CO.mono ?_
    clear CO
    rintro e Y2 ⟨v2, rfl, hr2, hb2⟩
    obtain ⟨Ax, cx, rfl, hcx⟩ := row_slice hr2
    have HR2 := Lib.hid hr2
    have HX2 := Lib.hid (row_type hr2)
    have HB2 := Lib.hid hb2
    have BT2 := Lib.hid (BTY.out.next hb2)
    have BN2 := Lib.hid (BNY.out.next hb2)
    have HA2 := Lib.hid (HAY.out.next hb2)
    have HT2 := Lib.hid (HTY.out.next hb2)
    clear hr2 hb2 p0 p1 p2 pz q0 q1 q2 q3 q4 qz
    have p0 := BT2.out.cell 0
    have p1 := BT2.out.cell 1
    have p2 := BT2.out.cell 2
    have pz := BT2.out.lt
    simp at p0 p1 p2
    have q0 := BN2.out.cell 0
    have q1 := BN2.out.cell 1
    have q2 := BN2.out.cell 2
    have q3 := BN2.out.cell 3
    have q4 := BN2.out.cell 4
    have qz := BN2.out.lt
    simp at q0 q1 q2 q3 q4
    have CO := objs10_row (s := (K : Int)) A5 (some ⟨g5, 0, none⟩) c5 c6 Y2 HA2.out HT2.out HU2.out HOX2.out
    go_wp2_with fail
    refine CO.mono ?_
    clear CO
    rintro e Y3 ⟨v3, rfl, hr3, hb3⟩
    obtain ⟨Ay, cy, rfl, hcy⟩ := row_slice hr3
    have HR3 := Lib.hid hr3
    have HXR := Lib.hid (ownsRow_below8 HR2.out hb3)
    have HB3 := Lib.hid (below_next HB2.out (Nat.le_refl _) hb3)
    have hz3 : Y.heap.size ≤ Y3.heap.size := HB3.out.size
    have hob := row_block HR2.out
    clear hr3 hb3 p0 p1 p2 pz q0 q1 q2 q3 q4 qz
    go_wp2_with (at_builtin; refine wpList_append_ownG _ (by rfl) _ _ 28 rfl Y.heap.size 3 i0 (.int .i64 0) 1 8 Try.underlying28 hi0 hz0 hz1 hz2 rfl (by decide) _ l.length (numL l) rfl (HXR.out.alloc _) ⟨Y3.heap.size, 0, none⟩ 1 1 [.int .i64 P] rfl rfl ?c1 (by simp [Value.oneCell']) (by simp only [maxLen]; omega) (by omega) ?c5 ?_)
    case c1 => exact one_news (by go_simp)
    case c5 => simp; omega
    intro v' w1 hown' hgrow hq6
    clear hq6
    have e1 : numL l ++ [.int .i64 P] = numL (l ++ [P]) := by simp [numL]
    rw [e1] at hown'
    obtain ⟨Az, cz, rfl, hn4, hq4⟩ := nums_of_row hown'
    have hbu : Below Y3.heap.size Y3 (Y3.alloc (.cells #[.int .i64 P] 3)) := (Below.refl _ _).alloc (Nat.le_refl _) _
    have HB4 := Lib.hid ((HB3.out.alloc hz3 (.cells #[.int .i64 P] 3)).grown hgrow (by simp; omega) hob)
    have hr4 := ownsRow_keep (ownsRow_below8 HR3.out hbu) (fun g hg hB hl => hgrow.block g hl (fun e => by
      obtain ⟨cur, hcur⟩ := HX2.out g e.symm
      have := hcur.lt
      omega))
    obtain ⟨_, _, e5, hn5, hq5⟩ := nums_of_row hr4
    injection e5 with e5 _ e6
    subst e5 e6
    have HN4 := Lib.hid hn4
    have HN5 := Lib.hid hn5
    clear hown' hgrow hob hbu hr4 hn4 hn5 hq4 hq5 e1 HXR HR3 HR2 HX2 hcx hcy
    have BT4 := Lib.hid (BTY.out.next HB4.out)
    have BN4 := Lib.hid (BNY.out.next HB4.out)
    have HA4 := Lib.hid (HAY.out.next HB4.out)
    have HT4 := Lib.hid (HTY.out.next HB4.out)
    have CS := sameInts_yes Ay Az (l.length + 1) cy cz (numF (l ++ [P])) w1 (by have h := HN5.out; simp only [List.length_append, List.length_cons, List.length_nil] at h; exact h) HN4.out (by omega)
    go_wp2_with fail
    refine CS.mono ?_
    clear CS
    rintro e w2 ⟨rfl, hb5⟩
    have BT5 := Lib.hid (BT4.out.next hb5)
    have BN5 := Lib.hid (BN4.out.next hb5)
    have HB5 := Lib.hid (below_next HB4.out (Nat.le_refl _) hb5)
    have CH := holds10_of (s := (K : Int)) A5 (some ⟨g5, 0, none⟩) c5 c6 P w2 (HA4.out.next hb5) (HT4.out.next hb5) HU2.out HOX2.out
    rw [show memB (l ++ [P]) (P : Int) = true from decide_eq_true ⟨P, by simp, rfl⟩] at CH
    clear hb5
    have p0 := BT5.out.cell 0
    have p1 := BT5.out.cell 1
    have p2 := BT5.out.cell 2
    have pz := BT5.out.lt
    simp at p0 p1 p2
    have q0 := BN5.out.cell 0
    have q1 := BN5.out.cell 1
    have q2 := BN5.out.cell 2
    have q3 := BN5.out.cell 3
    have q4 := BN5.out.cell 4
    have qz := BN5.out.lt
    simp at q0 q1 q2 q3 q4
    go_wp2_with fail
    refine CH.mono ?_
    clear CH
    rintro e w3 ⟨rfl, hb6⟩
    have HB6 := Lib.hid (below_next HBY.out (Nat.le_refl _) (below_next HB5.out (Nat.le_refl _) hb6))
    clear hb6 p0 p1 p2 pz q0 q1 q2 q3 q4 qz
    go_wp2_with fail
    refine (awake10_any w3).mono ?_
    rintro e w4 ⟨rfl, hb7⟩
    have HB7 := Lib.hid (below_next HB6.out (Nat.le_refl _) hb7)
    clear hb7
    go_wp2_with fail
    go_ret
    exact ⟨rfl, HB7.out⟩
end Go.Proofs.Ythcfcciemjkilaa
