/-
  The law RemsetParts: every slot is dropped with its frames or kept.
-/
import Derived.Test.YtkjmokaahpkahaaRWDr
namespace Go.Proofs.Ytkjmokaahpkahaa
open Go.RowKit
set_option maxRecDepth 100000
set_option linter.unusedVariables false

theorem into_left (S : List Int) (L : List SetR) : intoS S (drpS S L) = [] ∧ cntT ((drpS S L).filter (inS S)) = 0 := by
  unfold intoS
  rw [drp_in]
  exact ⟨rfl, rfl⟩

set_option maxHeartbeats 8000000 in
theorem walkParts (Al : Option Addr) (nl cl : Nat) (w : World) (hL : ListP w w.heap.size Al nl cl) :
    Calls Try.prog 6 #[.slice Al nl cl] w fun e w' => e = .returned (.bool true) ∧ Below w.heap.size w w' := by
  obtain ⟨i0, hi0, hz0, hz1, hz2⟩ := info_parts num_info
  have HL := Lib.hid hL
  clear hL
  go_enter Try.func6, Try.ntmps6
  go_wp2_with fail
  refine (deck_any Al nl cl w HL.out).mono ?_
  rintro e U ⟨rfl, hd, hb, hz⟩
  have HD := Lib.hid hd
  have HBU := Lib.hid hb
  clear hd hb
  go_wp2_with fail
  refine (slots_any w.heap.size U HD.out).mono ?_
  rintro e V ⟨v, L, rfl, hv, hl, hc, ht, hd, hg⟩
  have HV := Lib.hid hv
  have HT := Lib.hid ht
  have HDV := Lib.hid hd
  have HBV := Lib.hid (below_turn18 HBU.out hg (Nat.le_refl _))
  have HCN := Lib.hid hc
  clear hv ht hd hg
  go_wp2_with fail
  refine (next_any w.heap.size 4 V (by omega) (by omega) HDV.out).mono ?_
  rintro e V1 ⟨k0, rfl, a0, a1, hD, hG⟩
  have HD1 := Lib.hid hD
  have HT1 := Lib.hid (HT.out.turn HDV.out hG)
  have HB1 := Lib.hid (below_turn18 HBV.out hG (Nat.le_refl _))
  clear hD hG
  have HBS := Lib.hid HBU.out.size
  go_upto_block 0 with fail
  go_cut [5, 6] (fun v2 _ wx => ∃ S : List Int, S.length ≤ 4 ∧ (∀ f ∈ S, in64 f) ∧ wx.ownsRow V1.heap.size 3 1 v2 S.length (numC S) ∧ V1.grownBy wx (some w.heap.size))
  case first =>
    go_wp2_with fail
    go_loopw [5, 6] (fun v2 k wr => ∃ (t : Nat) (S : List Int), k = .int .i64 t ∧ S.length + t ≤ 4 ∧ (∀ f ∈ S, in64 f) ∧ wr.ownsRow V1.heap.size 3 1 v2 S.length (numC S) ∧ DeckP wr w.heap.size ∧ V1.grownBy wr (some w.heap.size)) (fun _ k _ => (intOf k).toNat)
    case atStart => exact ⟨k0.toNat, [], by rw [Int.toNat_of_nonneg a0], by simp; omega, by simp, World.ownsRow_nil _ _ _ _, HD1.out, turn_below (Below.refl _ V1)⟩
    case round =>
      obtain ⟨t, S, rfl, hl, hin, ho, hd, hg⟩ := hrel
      have HIN := Lib.hid hin
      have HO := Lib.hid ho
      have HDR := Lib.hid hd
      have HGR := Lib.hid hg
      clear ho hd hg hin
      by_cases hlt2 : 0 < t
      · have hlt3 : (0 : Int) < (t : Int) := by omega
        have hw1 : IntKind.i64.wrap ((t : Int) - 1) = ((t - 1 : Nat) : Int) := by rw [IntWalk.i64_in _ (by omega)]; omega
        go_wp2_with fail
        refine (next_any w.heap.size 7 wr (by omega) (by omega) HDR.out).mono ?_
        rintro e W1 ⟨f, rfl, f0, f1, hD, hG⟩
        have HINF : Hid (∀ g ∈ S ++ [f], in64 g) := Lib.hid (fun g hg => by
          rcases List.mem_append.1 hg with h | h
          · exact HIN.out g h
          · simp at h; subst h; unfold in64; omega)
        clear f0 f1
        have HDE := Lib.hid hD
        have HGE := Lib.hid (turn_trans HGR.out hG)
        have hdl := HD1.out.lt
        have HOE := Lib.hid (ownsRow_keep (w' := W1) HO.out fun g _ hg hl => hG.block g hl (fun e => by injection e; omega))
        have HSE := Lib.hid (show V1.heap.size ≤ W1.heap.size from Nat.le_trans HGR.out.size hG.size)
        obtain ⟨X, hX⟩ : ∃ X, X = W1.alloc (.cells #[.int .i64 f] 3) := ⟨_, rfl⟩
        have BX : Blk X W1.heap.size 3 #[.int .i64 f] := by rw [hX]; exact Blk.new _ _ _
        have q0 := BX.cell 0
        have HNW := Lib.hid (one_news q0)
        have hbx : Below W1.heap.size W1 X := by rw [hX]; exact (Below.refl _ _).alloc (Nat.le_refl _) _
        have HOX := Lib.hid (ownsRow_keep (w' := X) HOE.out fun g _ _ hl => hbx.block g hl)
        have HBX := Lib.hid hbx
        have HGX := Lib.hid (turn_next HGE.out hbx)
        have HX := Lib.hid hX
        have HM1 := Lib.hid (show S.length + 1 ≤ maxLen by simp only [maxLen]; omega)
        have HM2 := Lib.hid (show (S.length + 1) * 8 ≤ 140737488355328 by omega)
        have HSX := Lib.hid (Nat.le_trans HSE.out hbx.size)
        clear hD hG BX q0 hbx hX
        go_wp2_with (at_builtin; rw [← HX.out]; refine wpList_append_own _ rfl _ _ 23 rfl V1.heap.size 3 i0 _ 1 8 Try.underlying23 hi0 hz0 hz1 hz2 rfl (by decide) u5 S.length (numC S) rfl HOX.out ⟨W1.heap.size, 0, none⟩ 1 1 [.int .i64 f] rfl rfl HNW.out (by simp [Value.oneCell']) HM1.out HM2.out HSX.out ?_)
        intro v3 W3 hown3 hgr3 _
        have HP : Hid (W3.ownsRow V1.heap.size 3 1 v3 (S ++ [f]).length (numC (S ++ [f]))) := Lib.hid (by rw [numC_append, List.length_append]; exact hown3)
        have HG3 := Lib.hid (turn_row18 HGX.out hgr3 (row_block HOX.out))
        have HD3 : Hid (DeckP W3 w.heap.size) := Lib.hid (by
          obtain ⟨A5, n5, c5, p5, k1, k2, k3, k4, k5⟩ := HDE.out.next HBX.out
          have hk : ∀ k, k < V1.heap.size → W3.heap[k]? = X.heap[k]? := fun k hk => hgr3.block k (by have := HSX.out; omega) (fun e => by have := row_block HOX.out k e.symm; omega)
          refine ⟨A5, n5, c5, p5, (hk _ hdl).trans k1, k2, k3, k4, fun j hj => ?_⟩
          obtain ⟨b5, o5, v5, e5, l5, x5, y5⟩ := k5 j hj
          exact ⟨b5, o5, v5, e5, l5, by rw [World.cell?_of_block (w := X) (w' := W3) (hk b5 (by omega))]; exact x5, y5⟩)
        clear hown3 hgr3
        go_wp2_with fail
        exact ⟨⟨t - 1, S ++ [f], by go_num, by simp; omega, HINF.out, HP.out, HD3.out, HG3.out⟩, by simp [intOf]; omega⟩
      · have hlt3 : ¬ (0 : Int) < (t : Int) := by omega
        go_wp2_with fail
        go_meet
        exact ⟨S, by omega, HIN.out, HO.out, HGR.out⟩
  case rest =>
    obtain ⟨S, hS4, hsi, ho, hg⟩ := hcut
    have HSI := Lib.hid hsi
    clear hsi
    obtain ⟨A6, c6, rfl, hS6⟩ := inn_own (lo := 0) ho rfl
    obtain ⟨A7, c7, rfl, hT7⟩ := (HT1.out.turn HD1.out hg).tarr
    have HB := Lib.hid (below_turn18 HB1.out hg (Nat.le_refl _))
    have HS6 := Lib.hid hS6.lt
    have HT7 := Lib.hid hT7
    have HVL := Lib.hid HV.out
    clear ho hg hS6 hT7
    have HLL := Lib.hid (show L.length ≤ 1048000 by omega)
    have HLS : Hid (∀ x ∈ L, x.sl.length ≤ 1048000) := Lib.hid fun x hx => by have := sl_le hx; have := HCN.out; omega
    have HVD := Lib.hid (drpS_sub S HVL.out)
    have hcp := cnt_parts S L
    obtain ⟨hif1, _, hif3⟩ := intoS_facts S L
    obtain ⟨nI, hnI⟩ : ∃ n, n = cntT (L.filter (inS S)) := ⟨_, rfl⟩
    obtain ⟨nD, hnD⟩ : ∃ n, n = cntT (drpS S L) := ⟨_, rfl⟩
    obtain ⟨nL, hnL⟩ : ∃ n, n = cntT L := ⟨_, rfl⟩
    obtain ⟨I, hI⟩ : ∃ I, I = intoS S L := ⟨_, rfl⟩
    rw [← hnD, ← hnI, ← hnL] at hcp
    rw [← hnI, ← hI] at hif3
    rw [← hI] at hif1
    have HNI := Lib.hid hnI
    have HND := Lib.hid hnD
    have HNL := Lib.hid hnL
    have HI := Lib.hid hI
    have HIA := Lib.hid hif1
    have hnl20 : nL ≤ 20 := by have := HCN.out; omega
    clear hnI hnD hnL hI hif1
    go_wp2_with fail
    refine (devDrop_any A7 c7 L wc HT7.out A6 c6 S HS6.out HSI.out HLL.out HLS.out HVL.out).mono ?_
    rintro e W1 ⟨AD, cD, rfl, hD, hb1⟩
    have HD1 := Lib.hid hD
    have HT1 := Lib.hid (HT7.out.next hb1)
    have HS1 := Lib.hid (HS6.out.next hb1)
    have HB1 := Lib.hid (HB.out.trans (hb1.mono HB.out.size))
    clear hD hb1
    go_wp2_with fail
    refine (devInto_any A7 c7 L W1 HT1.out A6 c6 S HS1.out HSI.out (by have := HCN.out; omega) HVL.out).mono ?_
    rw [← HNI.out, ← HI.out]
    rintro e W2 ⟨AI, cI, rfl, hI, hb2⟩
    have HI2 := Lib.hid hI
    have HD2 := Lib.hid (HD1.out.next hb2)
    have HT2 := Lib.hid (HT1.out.next hb2)
    have HS2 := Lib.hid (HS1.out.next hb2)
    have HB2 := Lib.hid (HB1.out.trans (hb2.mono HB1.out.size))
    clear hI hb2
    go_wp2_with fail
    refine (devInto_any AD cD (drpS S L) W2 HD2.out A6 c6 S HS2.out HSI.out (by have := HND.out; omega) HVD.out).mono ?_
    rw [(into_left S L).1, (into_left S L).2]
    rintro e W3 ⟨AJ, cJ, rfl, hJ, hb3⟩
    have HI3 := Lib.hid (HI2.out.next hb3)
    have HD3 := Lib.hid (HD2.out.next hb3)
    have HT3 := Lib.hid (HT2.out.next hb3)
    have HB3 := Lib.hid (HB2.out.trans (hb3.mono HB2.out.size))
    clear hJ hb3
    have hlt1 : ¬ (nI : Int) < I.length := by omega
    have hd1 : decide (nI < I.length) = false := decide_eq_false (by omega)
    go_wp2_with fail
    refine (devCount_any AD cD (drpS S L) W3 HD3.out (by have := HND.out; omega)).mono ?_
    rw [← HND.out]
    rintro e W4 ⟨rfl, hb4⟩
    have HI4 := Lib.hid (HI3.out.next hb4)
    have HD4 := Lib.hid (HD3.out.next hb4)
    have HT4 := Lib.hid (HT3.out.next hb4)
    have HB4 := Lib.hid (HB3.out.trans (hb4.mono HB3.out.size))
    clear hb4
    have hw1 : IntKind.i64.wrap ((nD : Int) + nI) = (nD : Int) + nI := IntWalk.i64_in _ (by omega)
    have hlt3 : ¬ (nL : Int) < (nD : Int) + nI := by omega
    have hd2 : decide ((nL : Int) < (nD : Int) + nI) = false := decide_eq_false hlt3
    go_wp2_with fail
    refine (devCount_any A7 c7 L W4 HT4.out (by have := HCN.out; omega)).mono ?_
    rw [← HNL.out]
    rintro e W5 ⟨rfl, hb5⟩
    have HI5 := Lib.hid (HI4.out.next hb5)
    have HD5 := Lib.hid (HD4.out.next hb5)
    have HB5 := Lib.hid (HB4.out.trans (hb5.mono HB4.out.size))
    clear hb5
    go_wp2_with fail
    refine (devValid_any AD cD (drpS S L) W5 HD5.out).mono ?_
    rintro e W6 ⟨q, rfl, hq, hb6⟩
    obtain rfl : q = true := hq.2 HVD.out
    have HI6 := Lib.hid (HI5.out.next hb6)
    have HB6 := Lib.hid (HB5.out.trans (hb6.mono HB5.out.size))
    clear hq hb6
    go_wp2_with fail
    go_loopw [12] (fun i wr => ∃ t : Nat, 1 ≤ t ∧ t ≤ I.length + 1 ∧ i = .int .i64 t ∧ Below W6.heap.size W6 wr) (fun i _ => I.length + 1 - (intOf i).toNat)
    case atStart => exact ⟨1, by omega, by omega, rfl, Below.refl _ _⟩
    case round =>
      obtain ⟨t, ht1, ht, rfl, hb⟩ := hrel
      have HBR := Lib.hid hb
      clear hb
      by_cases hlt : t < I.length
      · have hlt2 : 0 ≤ (t : Int) ∧ (t : Int) < I.length := by omega
        have hlt4 : 0 ≤ ((t - 1 : Nat) : Int) ∧ ((t - 1 : Nat) : Int) < I.length := by omega
        have hw2 : IntKind.i64.wrap ((t : Int) - 1) = ((t - 1 : Nat) : Int) := by rw [IntWalk.i64_in _ (by omega)]; omega
        obtain ⟨y, hy⟩ := nth_of hlt
        obtain ⟨z, hz⟩ := nth_of (show t - 1 < I.length by omega)
        obtain ⟨b9, o9, hA9, _, _, d0⟩ := (HI6.out.next HBR.out).at_ hy
        obtain ⟨b8, o8, hA8, _, _, e0⟩ := (HI6.out.next HBR.out).at_ hz
        rw [hA9] at hA8
        injection hA8 with hA8
        injection hA8 with e1 e2
        subst e1 e2 hA9
        have hzy := (ascN_iff I).1 HIA.out (t - 1) z y hz (by rw [show t - 1 + 1 = t by omega]; exact hy)
        have hge2 : decide (y ≤ z) = false := decide_eq_false (by omega)
        clear hy hz
        go_wp2_with fail
        go_region
        go_wp2_with fail
        exact ⟨⟨t + 1, by omega, by omega, by go_num, HBR.out.drew⟩, by simp [intOf]; omega⟩
      · have hlt2 : ¬ (t : Int) < I.length := by omega
        go_wp2_with fail
        refine (awake18_any _).mono ?_
        rintro e W ⟨rfl, hb⟩
        have HBW := Lib.hid hb
        clear hb
        go_wp2_with fail
        go_ret
        exact ⟨rfl, HB6.out.trans ((HBR.out.trans (HBW.out.mono HBR.out.size)).mono HB6.out.size)⟩
end Go.Proofs.Ytkjmokaahpkahaa
