/-
  The law RemsetOrder: sets do not depend on the order in which slots are inserted, nor on how often.
-/
import Derived.Test.YtkjmokaahpkahaaRTri
namespace Go.Proofs.Ytkjmokaahpkahaa
open Go.RowKit
set_option maxRecDepth 100000
set_option linter.unusedVariables false

theorem DeckP.grown {w w2 : World} {dk : Nat} {row : Option Nat} (h : DeckP w dk) (hg : w.grownBy w2 row) (hr : ∀ k, row = some k → dk < k) : DeckP w2 dk := by
  have hl := h.lt
  obtain ⟨A5, n5, c5, p5, k1, k2, k3, k4, k5⟩ := h
  have hk : ∀ k, k ≤ dk → w2.heap[k]? = w.heap[k]? := fun k hk => hg.block k (by omega) (fun e => by have := hr k e.symm; omega)
  refine ⟨A5, n5, c5, p5, (hk _ (Nat.le_refl _)).trans k1, k2, k3, k4, fun j hj => ?_⟩
  obtain ⟨b5, o5, v5, e5, l5, x5, y5⟩ := k5 j hj
  exact ⟨b5, o5, v5, e5, l5, by rw [World.cell?_of_block (w := w) (w' := w2) (hk b5 (by omega))]; exact x5, y5⟩
theorem lists_info : (Try.prog.info? 23).map (fun i => (i.zero, i.size, i.bytes)) = some (some (.slice none 0 0), 1, 24) := by kernel_rfl

set_option maxHeartbeats 16000000 in
theorem walkOrder (Al : Option Addr) (nl cl : Nat) (turn : Int) (w : World) (hL : ListP w w.heap.size Al nl cl) (t0 : -9223372036854775808 ≤ turn) (t1 : turn ≤ 9223372036854775807) :
    Calls Try.prog 5 #[.slice Al nl cl, .int .i64 turn] w fun e w' => e = .returned (.bool true) ∧ Below w.heap.size w w' := by
  obtain ⟨i0, hi0, hz0, hz1, hz2⟩ := info_parts lists_info
  have HL := Lib.hid hL
  clear hL
  go_enter Try.func5, Try.ntmps5
  go_wp2_with fail
  refine (deck_any Al nl cl w HL.out).mono ?_
  rintro e U ⟨rfl, hd, hb, hz9⟩
  clear hz9
  have HD := Lib.hid hd
  have HBU := Lib.hid hb
  have hdl := hd.lt
  clear hd hb
  go_wp2_with fail
  refine (next_any w.heap.size 14 U (by omega) (by omega) HD.out).mono ?_
  rintro e V1 ⟨k0, rfl, a0, a1, hD, hG⟩
  have HD1 := Lib.hid hD
  have HB1 := Lib.hid (below_turn18 HBU.out hG (Nat.le_refl _))
  have HS1 := Lib.hid hG.size
  clear hD hG
  go_upto_block 0 with fail
  go_cut [6, 7] (fun v _ wx => ∃ P : List (Int × Int × Int), P.length ≤ 14 ∧ POwn wx U.heap.size v P ∧ (∀ x ∈ P, numP x.1 ∧ numP x.2.1 ∧ 0 ≤ x.2.2) ∧ Below w.heap.size w wx)
  case first => as_aux_lemma =>
    go_wp2_with fail
    go_loopw [6, 7] (fun v k wr => ∃ (t : Nat) (P : List (Int × Int × Int)), k = .int .i64 t ∧ P.length + t ≤ 14 ∧ POwn wr U.heap.size v P ∧ (∀ x ∈ P, numP x.1 ∧ numP x.2.1 ∧ 0 ≤ x.2.2) ∧ DeckP wr w.heap.size ∧ Below w.heap.size w wr ∧ U.heap.size ≤ wr.heap.size) (fun _ k _ => (intOf k).toNat)
    case atStart => exact ⟨k0.toNat, [], by rw [Int.toNat_of_nonneg a0], by simp; omega, POwn.nil _ _, fun x hx => by simp at hx, HD1.out, HB1.out, HS1.out⟩
    case round =>
      obtain ⟨t, P, rfl, hl, ho, hp, hd, hb, hsz⟩ := hrel
      have HO := Lib.hid ho
      have HPP := Lib.hid hp
      have HDR := Lib.hid hd
      have HBR := Lib.hid hb
      have HSR := Lib.hid hsz
      clear ho hp hd hb hsz
      by_cases hlt2 : 0 < t
      · have hlt3 : (0 : Int) < (t : Int) := by omega
        have hw1 : IntKind.i64.wrap ((t : Int) - 1) = ((t - 1 : Nat) : Int) := by rw [IntWalk.i64_in _ (by omega)]; omega
        go_wp2_with fail
        refine (next_any w.heap.size 4 wr (by omega) (by omega) HDR.out).mono ?_
        rintro e W1 ⟨f, rfl, f0, f1, hD, hG⟩
        have HD2 := Lib.hid hD
        have HO2 := Lib.hid (HO.out.turn HDR.out hG)
        have HB2 := Lib.hid (below_turn18 HBR.out hG (Nat.le_refl _))
        have HS2 := Lib.hid (Nat.le_trans HSR.out hG.size)
        clear hD hG
        go_wp2_with fail
        refine (next_any w.heap.size 4 W1 (by omega) (by omega) HD2.out).mono ?_
        rintro e W2 ⟨g, rfl, g0, g1, hD, hG⟩
        have HD3 := Lib.hid hD
        have HO3 := Lib.hid (HO2.out.turn HD2.out hG)
        have HB3 := Lib.hid (below_turn18 HB2.out hG (Nat.le_refl _))
        have HS3 := Lib.hid (Nat.le_trans HS2.out hG.size)
        clear hD hG
        go_wp2_with fail
        refine (next_any w.heap.size 10 W2 (by omega) (by omega) HD3.out).mono ?_
        rintro e W3 ⟨s, rfl, s0, s1, hD, hG⟩
        have HD4 := Lib.hid hD
        have HO4 := Lib.hid (HO3.out.turn HD3.out hG)
        have HB4 := Lib.hid (below_turn18 HB3.out hG (Nat.le_refl _))
        have HS4 := Lib.hid (Nat.le_trans HS3.out hG.size)
        clear hD hG
        obtain ⟨X, hX⟩ : ∃ X, X = (W3.alloc (.cells #[.int .i64 f, .int .i64 g, .int .i64 s] 3)).alloc (.cells #[.slice (some ⟨W3.heap.size, 0, none⟩) 3 3] 23) := ⟨_, rfl⟩
        have BX : Blk X W3.heap.size 3 #[.int .i64 f, .int .i64 g, .int .i64 s] := by rw [hX]; exact (Blk.new _ _ _).alloc _
        have BY : Blk X (W3.heap.size + 1) 23 #[.slice (some ⟨W3.heap.size, 0, none⟩) 3 3] := by rw [hX]; exact Blk.newAt _ _ _ _ (by simp)
        have hbx : Below W3.heap.size W3 X := by rw [hX]; exact ((Below.refl _ _).alloc (Nat.le_refl _) _).alloc (by simp) _
        obtain ⟨vs, hv1, hv2⟩ := HO4.out.below hbx
        have HV1 := Lib.hid hv1
        have HV2 := Lib.hid hv2
        have HBX := Lib.hid BX
        have HNW := Lib.hid (one_news (BY.cell 0))
        have HDX := Lib.hid (HD4.out.next hbx)
        have HBT := Lib.hid (HB4.out.trans (hbx.mono HB4.out.size))
        have HSX := Lib.hid (Nat.le_trans HS4.out hbx.size)
        have HX := Lib.hid hX
        have HM1 := Lib.hid (show P.length + 1 ≤ maxLen by simp only [maxLen]; omega)
        have HM2 := Lib.hid (show (P.length + 1) * 24 ≤ 140737488355328 by omega)
        have HFN := Lib.hid (show numP f ∧ numP g ∧ 0 ≤ s from ⟨⟨f0, by omega⟩, ⟨g0, by omega⟩, s0⟩)
        clear hX BX BY hbx hv1 hv2
        go_wp2_with (at_builtin; rw [← HX.out]; refine wpList_append_own _ rfl _ _ 33 rfl U.heap.size 23 i0 _ 1 24 Try.underlying33 hi0 hz0 hz1 hz2 rfl (by decide) u6 P.length vs rfl HV1.out ⟨W3.heap.size + 1, 0, none⟩ 1 1 [.slice (some ⟨W3.heap.size, 0, none⟩) 3 3] rfl rfl HNW.out (by simp [Value.oneCell']) HM1.out HM2.out HSX.out ?_)
        intro v3 W5 hown3 hgr3 _
        have HP5 := Lib.hid (POwn.push_ (x := (f, g, s)) HV1.out HV2.out HBX.out hown3 rfl hgr3)
        have HD5 := Lib.hid (HDX.out.grown hgr3 (fun k hk => Nat.lt_of_lt_of_le hdl (row_block HV1.out k hk)))
        have HB5 := Lib.hid (HBT.out.grown hgr3 HBT.out.size (fun k hk => Nat.le_trans (Nat.le_of_lt hdl) (row_block HV1.out k hk)))
        have HS5 := Lib.hid (Nat.le_trans HSX.out hgr3.size)
        clear hown3 hgr3
        go_wp2_with fail
        exact ⟨⟨t - 1, P ++ [(f, g, s)], by go_num, by simp; omega, HP5.out, fun x hx => by
          rcases List.mem_append.1 hx with h | h
          · exact HPP.out x h
          · simp at h; subst h; exact HFN.out, HD5.out, HB5.out, HS5.out⟩, by simp [intOf]; omega⟩
      · have hlt3 : ¬ (0 : Int) < (t : Int) := by omega
        go_wp2_with fail
        go_meet
        exact ⟨P, by omega, HO.out, HPP.out, HBR.out⟩
  case rest =>
    obtain ⟨WC, rfl⟩ : ∃ WC, WC = wc := ⟨_, rfl⟩
    obtain ⟨P, hP, ho, hp, hb⟩ := hcut
    have HO := Lib.hid ho
    have HPP := Lib.hid hp
    have HB := Lib.hid hb
    obtain ⟨A6, c6, rfl, hc6, hcl6⟩ := ho.len
    simp only [maxLen] at hc6
    clear ho hp hb
    obtain ⟨n, hn⟩ : ∃ n, n = P.length := ⟨_, rfl⟩
    have HN := Lib.hid hn
    have hn14 : n ≤ 14 := by omega
    rw [← HN.out]
    clear hn
    go_upto_block 2 with fail
    go_cut [8, 9] (fun va vb wx => ∃ (Aa : Option Addr) (ca : Nat) (La : List SetR) (Ab : Option Addr) (cb : Nat), va = .slice Aa La.length ca ∧ vb = .slice Ab La.length cb ∧ TArr wx (Lt wx.heap.size) Aa ca La ∧ TArr wx (Lt wx.heap.size) Ab cb La ∧ ValS La ∧ La.length ≤ 14 ∧ cntT La ≤ 14 ∧ (∀ x ∈ P, HasS La x.1 x.2.1 x.2.2) ∧ Below WC.heap.size WC wx)
    case first => as_aux_lemma =>
      obtain ⟨m, hm⟩ : ∃ m : Nat, m = (turn % (n : Int)).toNat := ⟨_, rfl⟩
      have hrem : 0 < n → turn % (n : Int) = (m : Int) ∧ m < n := fun h => by
        have h1 := Int.emod_nonneg turn (show (n : Int) ≠ 0 by omega)
        have h2 := Int.emod_lt_of_pos turn (show (0 : Int) < n by omega)
        omega
      have HREM := Lib.hid hrem
      go_wp2_with fail
      clear hm hrem
      go_loopw [8, 9, 10, 11, 39] (fun va vb ea eb i wr => ∃ (t : Nat) (Aa : Option Addr) (ca : Nat) (La : List SetR) (Ab : Option Addr) (cb : Nat) (Lb : List SetR), va = .slice Aa La.length ca ∧ vb = .slice Ab Lb.length cb ∧ ea = .int .i64 0 ∧ eb = .int .i64 0 ∧ i = .int .i64 t ∧ t ≤ n ∧
        TArr wr (Lt wr.heap.size) Aa ca La ∧ TArr wr (Lt wr.heap.size) Ab cb Lb ∧ MadeS P (fun i => (i + m % n) % n) t La ∧ MadeS P (fun i => n - 1 - i) t Lb ∧ Below WC.heap.size WC wr) (fun _ _ _ _ i _ => n - (intOf i).toNat)
      case atStart => exact ⟨0, none, 0, [], none, 0, [], rfl, rfl, rfl, rfl, rfl, by omega, TArr.nil _ _, TArr.nil _ _, MadeS.nil _ _, MadeS.nil _ _, Below.refl _ _⟩
      case round =>
        obtain ⟨t, Aa, ca, La, Ab, cb, Lb, rfl, rfl, rfl, rfl, rfl, ht, hTa, hTb, hMa, hMb, hb⟩ := hrel
        have HTa := Lib.hid hTa
        have HTb := Lib.hid hTb
        have HMa := Lib.hid hMa
        have HMb := Lib.hid hMb
        have HBR := Lib.hid hb
        clear hTa hTb hMa hMb hb
        by_cases hlt : t < n
        · have hlt2 : 0 ≤ (t : Int) ∧ (t : Int) < n := by omega
          have hnpos : 1 ≤ (n : Int) ∧ (n : Int) ≤ 14 := by have := HN.out; omega
          have HM := Lib.hid (HREM.out (by omega))
          have hm2 := HM.out.2
          obtain ⟨ix, hix⟩ : ∃ k, k = (t + m % n) % n := ⟨_, rfl⟩
          have hixn : ix < n := by rw [hix]; exact Nat.mod_lt _ (by omega)
          have HIX := Lib.hid hix
          clear hix
          go_wp2_with fail
          refine (mod_any turn n hnpos.1 (Int.le_trans hnpos.2 (by decide)) t0 t1 wr).mono ?_
          rintro e W1 ⟨rfl, rfl⟩
          rw [HM.out.1]
          have hw1 : IntKind.i64.wrap ((t : Int) + m) = (t : Int) + m := IntWalk.i64_in _ (by omega)
          have hw6 : ((t : Int) + m) % (n : Int) = (ix : Int) := by rw [HIX.out, Nat.mod_eq_of_lt hm2]; rfl
          have hw2 : ((t : Int) + m).tmod (n : Int) = (ix : Int) := by rw [Int.tmod_eq_emod_of_nonneg (by omega)]; exact hw6
          have hw3 : IntKind.i64.wrap (ix : Int) = (ix : Int) := IntWalk.i64_in _ (by omega)
          have hix2 : 0 ≤ (ix : Int) ∧ (ix : Int) < n := by omega
          obtain ⟨iy, hiy⟩ : ∃ k, k = n - 1 - t := ⟨_, rfl⟩
          have hw4 : IntKind.i64.wrap ((n : Int) - 1) = ((n - 1 : Nat) : Int) := by rw [IntWalk.i64_in _ (by omega)]; omega
          have hw5 : IntKind.i64.wrap (((n - 1 : Nat) : Int) - t) = (iy : Int) := by rw [IntWalk.i64_in _ (by omega)]; omega
          have hiy2 : 0 ≤ (iy : Int) ∧ (iy : Int) < n := by omega
          obtain ⟨x, hx⟩ := nth_of (l := P) (j := ix) (by have := HN.out; omega)
          obtain ⟨y, hy⟩ := nth_of (l := P) (j := iy) (by have := HN.out; omega)
          have HOR := Lib.hid (HO.out.below HBR.out)
          obtain ⟨gx, capx, bx, ex, hgx, cx, BX⟩ := HOR.out.at_ hx
          obtain ⟨gy, capy, by_, ey, hgy, cy, BY⟩ := HOR.out.at_ hy
          rw [ex] at ey
          injection ey with ey1 _ ey3
          injection ey1 with ey1
          injection ey1 with ey1 _ _
          subst ey1 ey3
          injection ex with ex1 _ ex3
          subst ex1 ex3
          have HB14 := Lib.hid BX
          have HXE := Lib.hid hx
          have HYE := Lib.hid hy
          have HIY := Lib.hid hiy
          have HP14 := Lib.hid (HPP.out x (List.mem_iff_getElem?.2 ⟨ix, hx⟩))
          have HP15 := Lib.hid (HPP.out y (List.mem_iff_getElem?.2 ⟨iy, hy⟩))
          have HBYY := Lib.hid BY
          have HLN14 := Lib.hid (show La.length ≤ 1048000 by have := HMa.out.2.1; omega)
          have HLS14 : Hid (∀ x ∈ La, x.sl.length ≤ 1048000) := Lib.hid fun x hx => by have := sl_le hx; have := HMa.out.2.2.1; omega
          have HLN15 := Lib.hid (show Lb.length ≤ 1048000 by have := HMb.out.2.1; omega)
          have HLS15 : Hid (∀ x ∈ Lb, x.sl.length ≤ 1048000) := Lib.hid fun x hx => by have := sl_le hx; have := HMb.out.2.2.1; omega
          clear hx hy hiy BX BY
          have z140 : wr.drew.cell? ⟨bx, 0, none⟩ = some (.int .i64 x.1) := HB14.out.cell 0
          have z141 : wr.drew.cell? ⟨bx, 1, none⟩ = some (.int .i64 x.2.1) := HB14.out.cell 1
          have z142 : wr.drew.cell? ⟨bx, 2, none⟩ = some (.int .i64 x.2.2) := HB14.out.cell 2
          have l14 : bx < wr.drew.heap.size := HB14.out.lt
          have hc14 : Below wr.drew.heap.size wr.drew wr.drew := Below.refl _ _
          go_upto_region 14 with fail
          go_region_held3 (fun w' => w'.cell? ⟨bx, 0, none⟩ = some (.int .i64 x.1) ∧ w'.cell? ⟨bx, 1, none⟩ = some (.int .i64 x.2.1) ∧ w'.cell? ⟨bx, 2, none⟩ = some (.int .i64 x.2.2))
            (first | (with_reducible exact ⟨z140, z141, z142⟩) | (with_reducible exact ⟨(hc14.cell (p := ⟨bx, 0, none⟩) l14).trans z140, (hc14.cell (p := ⟨bx, 1, none⟩) l14).trans z141, (hc14.cell (p := ⟨bx, 2, none⟩) l14).trans z142⟩) | exact ⟨z140, z141, z142⟩)
            (first
              | (go_at_call 17; refine (devInsert_any Aa ca La _ ((HTa.out.next (Below.refl _ wr).drew).next hc14) x.1 x.2.1 x.2.2 HLN14.out HLS14.out).mono ?_; intro e W14 h; obtain ⟨A1, c1, rfl, h14, hb14⟩ := h.ok HMa.out.1 HP14.out.1 HP14.out.2.1 HP14.out.2.2 rfl; have HT14 := Lib.hid h14; clear h h14; replace hc14 : Below wr.drew.heap.size wr.drew W14 := hc14.trans (Below.mono hb14 hc14.size); clear hb14))
          have HC14 := Lib.hid (show Below wr.heap.size wr W14 from (Below.refl _ wr).drew.trans hc14)
          have HB15 := Lib.hid (HBYY.out.next HC14.out)
          have HTB := Lib.hid (HTb.out.next HC14.out)
          go_wp2_with fail
          have z150 : W14.drew.cell? ⟨by_, 0, none⟩ = some (.int .i64 y.1) := HB15.out.cell 0
          have z151 : W14.drew.cell? ⟨by_, 1, none⟩ = some (.int .i64 y.2.1) := HB15.out.cell 1
          have z152 : W14.drew.cell? ⟨by_, 2, none⟩ = some (.int .i64 y.2.2) := HB15.out.cell 2
          have l15 : by_ < W14.drew.heap.size := HB15.out.lt
          have hc15 : Below W14.drew.heap.size W14.drew W14.drew := Below.refl _ _
          go_upto_region 15 with fail
          go_region_held3 (fun w' => w'.cell? ⟨by_, 0, none⟩ = some (.int .i64 y.1) ∧ w'.cell? ⟨by_, 1, none⟩ = some (.int .i64 y.2.1) ∧ w'.cell? ⟨by_, 2, none⟩ = some (.int .i64 y.2.2))
            (first | (with_reducible exact ⟨z150, z151, z152⟩) | (with_reducible exact ⟨(hc15.cell (p := ⟨by_, 0, none⟩) l15).trans z150, (hc15.cell (p := ⟨by_, 1, none⟩) l15).trans z151, (hc15.cell (p := ⟨by_, 2, none⟩) l15).trans z152⟩) | exact ⟨z150, z151, z152⟩)
            (first
              | (go_at_call 17; refine (devInsert_any Ab cb Lb _ ((HTB.out.next (Below.refl _ W14).drew).next hc15) y.1 y.2.1 y.2.2 HLN15.out HLS15.out).mono ?_; intro e W15 h; obtain ⟨A2, c2, rfl, h15, hb15⟩ := h.ok HMb.out.1 HP15.out.1 HP15.out.2.1 HP15.out.2.2 rfl; have HT15 := Lib.hid h15; clear h h15; replace hc15 : Below W14.drew.heap.size W14.drew W15 := hc15.trans (Below.mono hb15 hc15.size); clear hb15))
          have HC15 := Lib.hid (show Below wr.heap.size wr W15 from HC14.out.trans (((Below.refl _ W14).drew.trans hc15).mono HC14.out.size))
          have HTA := Lib.hid (HT14.out.next ((Below.refl _ W14).drew.trans hc15))
          go_wp2_with fail
          exact ⟨⟨t + 1, A1, c1, _, A2, c2, _, rfl, rfl, rfl, rfl, by go_num, by omega, HTA.out, HT15.out, HMa.out.next (by show P[(t + m % n) % n]? = _; rw [← HIX.out]; exact HXE.out) HP14.out.1 HP14.out.2.1 HP14.out.2.2, HMb.out.next (by show P[n - 1 - t]? = _; rw [← HIY.out]; exact HYE.out) HP15.out.1 HP15.out.2.1 HP15.out.2.2, HBR.out.trans (HC15.out.mono HBR.out.size)⟩, by simp [intOf]; omega⟩
        · have hlt2 : ¬ (t : Int) < n := by omega
          obtain rfl : n = t := by omega
          have HEQ := Lib.hid (show La = Lb from made_same HN.out HMa.out HMb.out rot_all rev_all)
          have HALL : Hid (∀ x ∈ P, HasS La x.1 x.2.1 x.2.2) := Lib.hid (fun x hx => by
            obtain ⟨k, hk⟩ := List.mem_iff_getElem?.1 hx
            obtain ⟨i, hi, e⟩ := rot_all (n := n) (m := m) k (by have := get_lt hk; have := HN.out; omega)
            exact (HMa.out.2.2.2 _ _ _).2 ⟨i, hi, by show P[(i + m % n) % n]? = _; rw [e]; exact hk⟩)
          have HLEN := Lib.hid (show La.length ≤ 14 ∧ cntT La ≤ 14 by have := HMa.out.2.1; have := HMa.out.2.2.1; have := HN.out; omega)
          have hel : Lb.length = La.length := by rw [HEQ.out]
          have HEL := Lib.hid hel
          clear hel
          go_wp2_with fail
          go_meet
          exact ⟨Aa, ca, La, Ab, cb, rfl, by rw [HEL.out], HTa.out, by rw [HEQ.out]; exact HTb.out, HMa.out.1, HLEN.out.1, HLEN.out.2, HALL.out, HBR.out⟩
    case rest =>
      obtain ⟨W0, rfl⟩ : ∃ W0, W0 = wc := ⟨_, rfl⟩
      obtain ⟨Aa, ca, La, Ab, cb, rfl, rfl, hTa, hTb, hvl, hlen, hcnt, hall, hb⟩ := hcut
      have HTa := Lib.hid hTa
      have HTb := Lib.hid hTb
      have HVL := Lib.hid hvl
      have HALL := Lib.hid hall
      have HBR := Lib.hid hb
      have HLN := Lib.hid (show La.length ≤ 1048000 by omega)
      have HLS : Hid (∀ x ∈ La, x.sl.length ≤ 1048000) := Lib.hid fun x hx => by have := sl_le hx; omega
      have HOW := Lib.hid (HO.out.below HBR.out)
      clear hTa hTb hvl hlen hcnt hall hb
      go_wp2_with fail
      go_loopw [99] (fun i wr => ∃ k : Nat, k ≤ n ∧ i = .int .i64 k ∧ Below W0.heap.size W0 wr) (fun i _ => n - (intOf i).toNat)
      case atStart => exact ⟨0, by omega, rfl, Below.refl _ _⟩
      case round => as_aux_lemma =>
        obtain ⟨k, hk, rfl, hb2⟩ := hrel
        have HB2 := Lib.hid hb2
        clear hb2
        by_cases hkt : k < n
        · have HKT := Lib.hid hkt
          have hk2 : 0 ≤ (k : Int) ∧ (k : Int) < n := by omega
          obtain ⟨x, hx⟩ := nth_of (l := P) (j := k) (by have := HN.out; omega)
          obtain ⟨gx, capx, bx, ex, hgx, cx, BX⟩ := (HOW.out.below HB2.out).at_ hx
          injection ex with ex1 _ ex3
          subst ex1 ex3
          have HXE := Lib.hid hx
          have HPX := Lib.hid (HPP.out x (List.mem_iff_getElem?.2 ⟨k, hx⟩))
          have HHAS := Lib.hid (HALL.out x (List.mem_iff_getElem?.2 ⟨k, hx⟩))
          have HB22 := Lib.hid BX
          have HTA2 := Lib.hid (HTa.out.next HB2.out)
          clear hx BX
          have z220 : wr.drew.cell? ⟨bx, 0, none⟩ = some (.int .i64 x.1) := HB22.out.cell 0
          have z221 : wr.drew.cell? ⟨bx, 1, none⟩ = some (.int .i64 x.2.1) := HB22.out.cell 1
          have z222 : wr.drew.cell? ⟨bx, 2, none⟩ = some (.int .i64 x.2.2) := HB22.out.cell 2
          have l22 : bx < wr.drew.heap.size := HB22.out.lt
          have hc22 : Below wr.drew.heap.size wr.drew wr.drew := Below.refl _ _
          go_upto_region 22 with fail
          go_region_held3 (fun w' => w'.cell? ⟨bx, 0, none⟩ = some (.int .i64 x.1) ∧ w'.cell? ⟨bx, 1, none⟩ = some (.int .i64 x.2.1) ∧ w'.cell? ⟨bx, 2, none⟩ = some (.int .i64 x.2.2))
            (first | (with_reducible exact ⟨z220, z221, z222⟩) | (with_reducible exact ⟨(hc22.cell (p := ⟨bx, 0, none⟩) l22).trans z220, (hc22.cell (p := ⟨bx, 1, none⟩) l22).trans z221, (hc22.cell (p := ⟨bx, 2, none⟩) l22).trans z222⟩) | exact ⟨z220, z221, z222⟩)
            (first
              | (go_at_call 20; refine (devHas_any Aa ca La _ ((HTA2.out.next (Below.refl _ wr).drew).next hc22) x.1 x.2.1 x.2.2 HVL.out (by have := HLN.out; omega) (fun x hx => by have := HLS.out x hx; omega)).mono ?_; rintro e W22 ⟨q, rfl, hq, hb22⟩; obtain rfl : q = true := hq.2 HHAS.out; replace hc22 : Below wr.drew.heap.size wr.drew W22 := hc22.trans (Below.mono hb22 hc22.size); clear hb22 hq))
          have HC22 := Lib.hid (show Below W0.heap.size W0 W22 from HB2.out.trans (((Below.refl _ wr).drew.trans hc22).mono HB2.out.size))
          have HTA3 := Lib.hid (HTa.out.next HC22.out)
          have HB24 := Lib.hid (HB22.out.next ((Below.refl _ wr).drew.trans hc22))
          have HCX := Lib.hid (HOW.out.below HC22.out)
          go_wp2_with fail
          have z240 : W22.drew.cell? ⟨bx, 0, none⟩ = some (.int .i64 x.1) := HB24.out.cell 0
          have z241 : W22.drew.cell? ⟨bx, 1, none⟩ = some (.int .i64 x.2.1) := HB24.out.cell 1
          have z242 : W22.drew.cell? ⟨bx, 2, none⟩ = some (.int .i64 x.2.2) := HB24.out.cell 2
          have l24 : bx < W22.drew.heap.size := HB24.out.lt
          have hc24 : Below W22.drew.heap.size W22.drew W22.drew := Below.refl _ _
          go_upto_region 24 with fail
          go_region_held3 (fun w' => w'.cell? ⟨bx, 0, none⟩ = some (.int .i64 x.1) ∧ w'.cell? ⟨bx, 1, none⟩ = some (.int .i64 x.2.1) ∧ w'.cell? ⟨bx, 2, none⟩ = some (.int .i64 x.2.2))
            (first | (with_reducible exact ⟨z240, z241, z242⟩) | (with_reducible exact ⟨(hc24.cell (p := ⟨bx, 0, none⟩) l24).trans z240, (hc24.cell (p := ⟨bx, 1, none⟩) l24).trans z241, (hc24.cell (p := ⟨bx, 2, none⟩) l24).trans z242⟩) | exact ⟨z240, z241, z242⟩)
            (first
              | (go_at_call 17; refine (devInsert_any Aa ca La _ ((HTA3.out.next (Below.refl _ W22).drew).next hc24) x.1 x.2.1 x.2.2 HLN.out HLS.out).mono ?_; intro e W24 h; obtain ⟨A5, c5, rfl, h5, hb24⟩ := h.ok HVL.out HPX.out.1 HPX.out.2.1 HPX.out.2.2 (putS_same HPX.out.1 HPX.out.2.1 HPX.out.2.2 HVL.out HHAS.out); have HT5 := Lib.hid h5; clear h h5; replace hc24 : Below W22.drew.heap.size W22.drew W24 := hc24.trans (Below.mono hb24 hc24.size); clear hb24))
          have HC24 := Lib.hid (show Below W0.heap.size W0 W24 from HC22.out.trans (((Below.refl _ W22).drew.trans hc24).mono HC22.out.size))
          go_wp2_with fail
          refine (same18_any Aa A5 ca c5 La La W24 (HTa.out.next HC24.out) HT5.out).mono ?_
          rintro e W25 ⟨q, rfl, hq, hb25⟩
          obtain rfl : q = true := hq.2 rfl
          have HC25 := Lib.hid (HC24.out.trans (hb25.mono HC24.out.size))
          clear hq hb25
          go_wp2_with fail
          exact ⟨⟨k + 1, HKT.out, by go_num, HC25.out⟩, by have := HKT.out; simp [intOf]; omega⟩
        · have hk2 : ¬ (k : Int) < n := by omega
          go_wp2_with fail
          refine (same18_any Aa Ab ca cb La La _ (HTa.out.next HB2.out) (HTb.out.next HB2.out)).mono ?_
          rintro e W5 ⟨q, rfl, hq, hb5⟩
          obtain rfl : q = true := hq.2 rfl
          have HC5 := Lib.hid (HB2.out.trans (hb5.mono HB2.out.size))
          clear hq hb5
          go_wp2_with fail
          refine (devValid_any Aa ca La W5 (HTa.out.next HC5.out)).mono ?_
          rintro e W6 ⟨q, rfl, hq, hb6⟩
          obtain rfl : q = true := hq.2 HVL.out
          have HC6 := Lib.hid (HC5.out.trans (hb6.mono HC5.out.size))
          clear hq hb6
          go_wp2_with fail
          refine (awake18_any W6).mono ?_
          rintro e W7 ⟨rfl, hb7⟩
          have HC7 := Lib.hid (HC6.out.trans (hb7.mono HC6.out.size))
          clear hb7
          go_wp2_with fail
          go_ret
          exact ⟨rfl, HB.out.trans ((HBR.out.trans (HC7.out.mono HBR.out.size)).mono HB.out.size)⟩
end Go.Proofs.Ytkjmokaahpkahaa
