/-
  Alloc of package bump for every raw space, every increment and every number of words. (Made by mkbal-s9.py.)
-/
import Derived.Test.YthcfcciemjkilaaDoorBap
import Derived.Test.YthcfcciemjkilaaDoorMSpace
import Derived.Deep.RegionHeld3
import Derived.Deep.DeepCutAuto
namespace Go.Proofs.YthcfcciemjkilaaDoor
open Go.RowKit
set_option maxRecDepth 100000
set_option linter.unusedVariables false

theorem extZ_nat {k W d : Nat} (hW : W ≤ 16384) (hd : d ≤ 48) (hk : k ≤ 8) : extZ k W d = (moreK k W d : Nat) := by
  unfold extZ moreK
  have h1 := ceilV_mono k (show W ≤ W + d by omega)
  have h2 := ceilV_le (a := W + d) (k := k) Nat.one_le_two_pow
  rw [IntWalk.i64_in ((W : Int) + d) (by omega), show (W : Int) + d = ((W + d : Nat) : Int) by simp, ceilZ_nat (by omega) (by omega), ceilZ_nat (by omega) (by omega), IntWalk.i64_in _ (by omega)]
  omega
/-- The word behind W others of a chain, as Step finds it from the chain's beginning. -/
theorem stp_val {k nw n : Nat} {wd : Nat → Int} {G : Nat → Fr} {p m W : Nat} {la sq st : Int} (hv : ValidP k nw wd n G) (hc : ChainP G n p la m sq st) (hst : stB st sq = true) (hW : W < m * 2 ^ k) : stpV k nw wd n G ((p : Int) * 2 ^ k) W = addrP G k p W := by
  have hm : 0 < m := by
    rcases Nat.eq_zero_or_pos m with h | h
    · rw [h] at hW; omega
    · exact h
  obtain ⟨q, hq1, hq2, hq3, _⟩ := hc.at_ hv.fv hst hm
  have hlen : LenP G p m := ⟨hc.end_ hm, fun i hi he => by obtain ⟨q, hq1, _⟩ := hc.at_ hv.fv hst hi; omega⟩
  have hpq : p = q := by
    rcases hc with ⟨h7, _⟩ | ⟨_, p', l, h7, _, h8, _, h9, _⟩
    · omega
    · simp only [iter] at hq1; omega
  subst hpq
  have hz : (0 : Int) < 2 ^ k := Int.pow_pos (by decide)
  have ez : ((2 ^ k : Nat) : Int) = (2 : Int) ^ k := by simp
  have hnw : nw = n * 2 ^ k := by have := hv.2.2.1; rw [Int.toNat_natCast] at this; exact this
  have hdv : (p : Int) * 2 ^ k / 2 ^ (Int.toNat (k : Int)) = p := by rw [Int.toNat_natCast]; exact Int.mul_ediv_cancel _ (by omega)
  have hmd : (p : Int) * 2 ^ k % 2 ^ (Int.toNat (k : Int)) = 0 := by rw [Int.toNat_natCast]; exact Int.mul_emod_left _ _
  have hso : (G p).ow ≠ -1 := by have := (stB_yes hst).1; omega
  have hlt : p * 2 ^ k < n * 2 ^ k := Nat.mul_lt_mul_of_pos_right hq2 (Nat.two_pow_pos k)
  have hE : stpE k nw wd n G ((p : Int) * 2 ^ k) W = 0 := by
    unfold stpE
    rw [hdv, hmd, Int.toNat_natCast, if_neg (by rw [validB_yes hv]; decide), if_neg, if_neg hso, if_neg]
    · rw [chL_length hlen (hlen.bound hv.fv rfl hq2), Int.toNat_natCast, ← ez]
      have : ((m * 2 ^ k : Nat) : Int) = (m : Int) * ((2 ^ k : Nat) : Int) := by simp
      omega
    · simp only [adB, not_or, Bool.not_eq_false, Bool.and_eq_true, decide_eq_true_eq]
      have h1 : ((p * 2 ^ k : Nat) : Int) = (p : Int) * 2 ^ k := by simp
      refine ⟨⟨by omega, by omega⟩, by omega⟩
  unfold stpV
  rw [if_pos hE, hdv, hmd, Int.zero_add, Int.toNat_natCast, Int.toNat_natCast]

set_option maxHeartbeats 4000000 in
/-- Alloc where the increment is not valid or the number of words not permitted. -/
theorem allBad9_any (s : Int) (A A' : Option Addr) (nw c n c' : Nat) (wd : Nat → Int) (F : Nat → Fr) (sq bt fi la wo d : Int) (w : World) (hA : Arr w w.heap.size A nw c wd) (hT : Tab w w.heap.size A' n c' F) (hv : incB s nw wd n F sq bt fi la wo = false ∨ d < 1 ∨ 48 < d) :
    Calls Tryd.prog 10 #[.agg #[.int .i64 s, .slice A nw c, .slice A' n c'], .agg #[.int .i64 sq, .int .i64 bt, .int .i64 fi, .int .i64 la, .int .i64 wo], .int .i64 d] w (AllX s nw wd n F sq bt fi la wo d w) := by
  have HA := Lib.hid hA
  have HT := Lib.hid hT
  have HV := Lib.hid hv
  obtain ⟨U, hU⟩ : ∃ U, U = (((w.alloc (.cells #[.int .i64 s, .slice A nw c, .slice A' n c'] 30)).alloc (.cells #[.int .i64 sq, .int .i64 bt, .int .i64 fi, .int .i64 la, .int .i64 wo] 35)).alloc (.cells #[.int .i64 0, .slice none 0 0, .slice none 0 0] 30)).alloc (.cells #[.int .i64 0, .int .i64 0, .int .i64 0, .int .i64 0, .int .i64 0] 35) := ⟨_, rfl⟩
  have BS : Blk U w.heap.size 30 #[.int .i64 s, .slice A nw c, .slice A' n c'] := by rw [hU]; exact (((Blk.new _ _ _).alloc _).alloc _).alloc _
  have BI : Blk U (w.heap.size + 1) 35 #[.int .i64 sq, .int .i64 bt, .int .i64 fi, .int .i64 la, .int .i64 wo] := by rw [hU]; exact ((Blk.newAt _ _ _ _ (by simp)).alloc _).alloc _
  have BR : Blk U (w.heap.size + 2) 30 #[.int .i64 0, .slice none 0 0, .slice none 0 0] := by rw [hU]; exact (Blk.newAt _ _ _ _ (by simp)).alloc _
  have BQ : Blk U (w.heap.size + 3) 35 #[.int .i64 0, .int .i64 0, .int .i64 0, .int .i64 0, .int .i64 0] := by rw [hU]; exact Blk.newAt _ _ _ _ (by simp)
  have HBU : Hid (Below w.heap.size w U) := by rw [hU]; exact ((((Below.refl _ _).alloc (Nat.le_refl _) _).alloc (by simp) _).alloc (by simp; omega) _).alloc (by simp; omega) _
  have HU := Lib.hid hU
  have p0 := BS.cell 0
  have p1 := BS.cell 1
  have p2 := BS.cell 2
  have q0 := BI.cell 0
  have q1 := BI.cell 1
  have q2 := BI.cell 2
  have q3 := BI.cell 3
  have q4 := BI.cell 4
  simp at p0 p1 p2 q0 q1 q2 q3 q4
  clear hA hT hv hU
  obtain ⟨b, hb⟩ : ∃ b, b = incB s nw wd n F sq bt fi la wo := ⟨_, rfl⟩
  have hbad : b = false ∨ d < 1 ∨ 48 < d := by rw [hb]; exact HV.out
  have HBD := Lib.hid hb
  clear hb
  go_enter Tryd.func10, Tryd.ntmps10
  go_wp2_with fail
  rw [← HU.out]
  refine (inc9_any s A A' nw c n c' wd F sq bt fi la wo U (HA.out.next HBU.out) (HT.out.next HBU.out)).mono ?_
  rintro e U1 ⟨rfl, hb1⟩
  rw [← HBD.out]
  have BS1 := BS.next hb1
  have BR1 := BR.next hb1
  have BQ1 := BQ.next hb1
  have HB1 : Hid (Below w.heap.size w U1) := below_next HBU.out (Nat.le_refl _) hb1
  clear p0 p1 p2 q0 q1 q2 q3 q4 hb1
  have r0 := BR1.cell 0
  have r1 := BR1.cell 1
  have r2 := BR1.cell 2
  have rf0 := BR1.frozen 0
  have rf1 := BR1.frozen 1
  have rf2 := BR1.frozen 2
  have t0 := BQ1.cell 0
  have t1 := BQ1.cell 1
  have t2 := BQ1.cell 2
  have t3 := BQ1.cell 3
  have t4 := BQ1.cell 4
  have tf0 := BQ1.frozen 0
  have tf1 := BQ1.frozen 1
  have tf2 := BQ1.frozen 2
  have tf3 := BQ1.frozen 3
  have tf4 := BQ1.frozen 4
  simp at r0 r1 r2 t0 t1 t2 t3 t4
  clear BS BI BR BQ BS1
  have zz : w.heap.size + 3 < U1.heap.size := BQ1.lt
  have FIN := Lib.hid (fun W' (h : Below w.heap.size w W') => allX_bad (d := d) HV.out h)
  clear BR1 BQ1
  rcases b with _ | _
  · go_wp2
    refine bodyPost_ret (v := .tuple #[zSp9, zInc, .int .i64 0, .int .i64 1]) (by simp [results, Tryd.results10, go_sem, r0, r1, r2, t0, t1, t2, t3, t4]) rfl (FIN.out _ ?_)
    exact below_put8 HB1.out (by omega) (by omega) _ _ _ _ _ _ _ _
  · by_cases hd : d < 1
    · go_wp2
      refine bodyPost_ret (v := .tuple #[zSp9, zInc, .int .i64 0, .int .i64 1]) (by simp [results, Tryd.results10, go_sem, r0, r1, r2, t0, t1, t2, t3, t4]) rfl (FIN.out _ ?_)
      exact below_put8 HB1.out (by omega) (by omega) _ _ _ _ _ _ _ _
    · have hd2 : 48 < d := by rcases hbad with h | h | h; cases h; omega; omega
      go_wp2
      refine bodyPost_ret (v := .tuple #[zSp9, zInc, .int .i64 0, .int .i64 1]) (by simp [results, Tryd.results10, go_sem, r0, r1, r2, t0, t1, t2, t3, t4]) rfl (FIN.out _ ?_)
      exact below_put8 HB1.out (by omega) (by omega) _ _ _ _ _ _ _ _

set_option maxHeartbeats 4000000 in
theorem allOk9_any (k : Nat) (A A' : Option Addr) (nw c n c' : Nat) (wd : Nat → Int) (F : Nat → Fr) (sq bt fi la wo : Int) (d : Nat) (w : World) (hA : Arr w w.heap.size A nw c wd) (hT : Tab w w.heap.size A' n c' F) (hD : Db w) (hi : incB k nw wd n F sq bt fi la wo = true) (hd : 1 ≤ d ∧ d ≤ 48) :
    Calls Tryd.prog 10 #[.agg #[.int .i64 k, .slice A nw c, .slice A' n c'], .agg #[.int .i64 sq, .int .i64 bt, .int .i64 fi, .int .i64 la, .int .i64 wo], .int .i64 d] w (AllX k nw wd n F sq bt fi la wo d w) := by
  obtain ⟨hv, hfq⟩ := incB_yes hi
  rw [Int.toNat_natCast] at hfq
  have HI := Lib.hid hi
  have HIN := Lib.hid (show ¬ (incB k nw wd n F sq bt fi la wo = false ∨ (d : Int) < 1 ∨ 48 < (d : Int)) from fun h => by
    rcases h with h | h | h
    · rw [hi] at h; cases h
    · omega
    · omega)
  have HFQ := Lib.hid hfq
  have HD := Lib.hid hD
  clear hi hfq hD
  have hk := shB_yes hv.1
  have hn := nfB_yes hv.2.1
  have hnw : nw = n * 2 ^ k := by have := hv.2.2.1; rw [Int.toNat_natCast] at this; exact this
  have hpl := prod_le (show n ≤ 64 by omega) (show k ≤ 8 by omega)
  rw [← hnw] at hpl
  have HA := Lib.hid hA
  have HT := Lib.hid hT
  have HV := Lib.hid hv
  have HNW := Lib.hid hnw
  obtain ⟨U, hU⟩ : ∃ U, U = (((w.alloc (.cells #[.int .i64 k, .slice A nw c, .slice A' n c'] 30)).alloc (.cells #[.int .i64 sq, .int .i64 bt, .int .i64 fi, .int .i64 la, .int .i64 wo] 35)).alloc (.cells #[.int .i64 0, .slice none 0 0, .slice none 0 0] 30)).alloc (.cells #[.int .i64 0, .int .i64 0, .int .i64 0, .int .i64 0, .int .i64 0] 35) := ⟨_, rfl⟩
  have BS : Blk U w.heap.size 30 #[.int .i64 k, .slice A nw c, .slice A' n c'] := by rw [hU]; exact (((Blk.new _ _ _).alloc _).alloc _).alloc _
  have BI : Blk U (w.heap.size + 1) 35 #[.int .i64 sq, .int .i64 bt, .int .i64 fi, .int .i64 la, .int .i64 wo] := by rw [hU]; exact ((Blk.newAt _ _ _ _ (by simp)).alloc _).alloc _
  have BR : Blk U (w.heap.size + 2) 30 #[.int .i64 0, .slice none 0 0, .slice none 0 0] := by rw [hU]; exact (Blk.newAt _ _ _ _ (by simp)).alloc _
  have BQ : Blk U (w.heap.size + 3) 35 #[.int .i64 0, .int .i64 0, .int .i64 0, .int .i64 0, .int .i64 0] := by rw [hU]; exact Blk.newAt _ _ _ _ (by simp)
  have HBU : Hid (Below w.heap.size w U) := by rw [hU]; exact ((((Below.refl _ _).alloc (Nat.le_refl _) _).alloc (by simp) _).alloc (by simp; omega) _).alloc (by simp; omega) _
  have HU := Lib.hid hU
  have p0 := BS.cell 0
  have p1 := BS.cell 1
  have p2 := BS.cell 2
  have q0 := BI.cell 0
  have q1 := BI.cell 1
  have q2 := BI.cell 2
  have q3 := BI.cell 3
  have q4 := BI.cell 4
  simp at p0 p1 p2 q0 q1 q2 q3 q4
  clear hA hT hv hU hnw
  go_enter Tryd.func10, Tryd.ntmps10
  go_wp2_with fail
  rw [← HU.out]
  refine (inc9_any k A A' nw c n c' wd F sq bt fi la wo U (HA.out.next HBU.out) (HT.out.next HBU.out)).mono ?_
  rintro e U1 ⟨rfl, hb1⟩
  rw [HI.out]
  have BS1 := BS.next hb1
  have BI1 := BI.next hb1
  have BR1 := BR.next hb1
  have BQ1 := BQ.next hb1
  have HB1 : Hid (Below w.heap.size w U1) := below_next HBU.out (Nat.le_refl _) hb1
  clear p0 p1 p2 q0 q1 q2 q3 q4 hb1
  · have hF := HFQ.out.1
    obtain ⟨f1, f2, f3, f4, W, rfl, f6, f7, f8⟩ := hF
    have HFP : Hid (FitsP k n nw F sq bt fi la W) := ⟨f1, f2, f3, f4, W, rfl, f6, f7, f8⟩
    clear f7 f8
    have HSTA := Lib.hid (show ((W : Int) = 0 ∧ 0 < cntO F sq n) ↔ (W = 0 ∧ 0 < cntO F sq n) by constructor <;> rintro ⟨h1, h2⟩ <;> exact ⟨by omega, h2⟩)
    have p0 := BS1.cell 0
    have p1 := BS1.cell 1
    have p2 := BS1.cell 2
    have q0 := BI1.cell 0
    have q1 := BI1.cell 1
    have q2 := BI1.cell 2
    have q3 := BI1.cell 3
    have q4 := BI1.cell 4
    simp at p0 p1 p2 q0 q1 q2 q3 q4
    have wz : w.heap.size + 3 < U1.heap.size := BQ1.lt
    have HAfter : ∀ wx, Below U1.heap.size U1 wx → Hid (AllocMid k A A' nw c n c' sq bt fi la W w wx) := fun wx hb => ⟨BS1.next hb, BI1.next hb, BR1.next hb, BQ1.next hb, below_next HB1.out (Nat.le_refl _) hb⟩
    have HAF := Lib.hid HAfter
    clear HAfter
    obtain ⟨fl, hfl⟩ : ∃ fl, fl = decide (W = 0 ∧ 0 < cntO F sq n) := ⟨_, rfl⟩
    have HFL := Lib.hid hfl
    clear hfl
    go_upto_region 3 with fail
    go_cut [38] (fun s wx => s = .bool fl ∧ AllocMid k A A' nw c n c' sq bt fi la W w wx)
    case first =>
      by_cases hW : W = 0
      · subst hW
        go_wp2_with fail
        refine (count9_any k (.slice A nw c) A' n c' F sq U1 (HT.out.next HB1.out) (by omega)).mono ?_
        rintro e U2 ⟨rfl, hb2⟩
        have HAFX := HAF.out U2 hb2
        obtain ⟨cn, hcn⟩ : ∃ cn, cn = cntO F sq n := ⟨_, rfl⟩
        rw [← hcn] at HFL ⊢
        by_cases hc0 : 0 < cn
        · have HDD := Lib.hid (show true = fl by rw [HFL.out]; simp [hc0])
          have hci : (0 : Int) < (cn : Int) := by omega
          clear hcn
          go_wp2
          go_meet
          exact ⟨congrArg Value.bool HDD.out, HAFX.out⟩
        · have HDD := Lib.hid (show false = fl by rw [HFL.out]; simp [hc0])
          obtain rfl : cn = 0 := by omega
          clear hcn
          go_wp2
          go_meet
          exact ⟨congrArg Value.bool HDD.out, HAFX.out⟩
      · have hWb : ((W : Int) == 0) = false := by simp; omega
        have HAFX := HAF.out U1 (Below.refl _ _)
        have HDD := Lib.hid (show false = fl by rw [HFL.out]; exact (decide_eq_false (fun h => hW h.1)).symm)
        go_wp2
        go_meet
        exact ⟨congrArg Value.bool HDD.out, HAFX.out⟩
    case rest =>
      obtain ⟨rfl, BS2, BI2, BR2, BQ2, hB2⟩ := hcut
      have HBB := HFL
      have HB2 := Lib.hid hB2
      clear hB2 p0 p1 p2 q0 q1 q2 q3 q4
      rcases fl with _ | _
      · have HNS : Hid (¬ ((W : Int) = 0 ∧ 0 < cntO F sq n)) := Lib.hid (fun h => of_decide_eq_false HBB.out.symm (HSTA.out.1 h))
        have p0 := BS2.cell 0
        have p1 := BS2.cell 1
        have p2 := BS2.cell 2
        have q0 := BI2.cell 0
        have q1 := BI2.cell 1
        have q2 := BI2.cell 2
        have q3 := BI2.cell 3
        have q4 := BI2.cell 4
        simp at p0 p1 p2 q0 q1 q2 q3 q4
        obtain ⟨K, hK⟩ : ∃ K, K = moreK k W d := ⟨_, rfl⟩
        have HK := Lib.hid hK
        have HEXT := Lib.hid (show extZ k W d = (K : Int) by rw [hK]; exact extZ_nat (by omega) (by omega) (by omega))
        clear hK
        go_wp2_with fail
        refine (extra9_any k W d (.slice A nw c) (.slice A' n c') sq bt fi la wc).mono ?_
        rintro e U3 ⟨rfl, hb3⟩
        rw [HEXT.out]
        have BS3 := BS2.next hb3
        have BI3 := BI2.next hb3
        have BR3 := BR2.next hb3
        have BQ3 := BQ2.next hb3
        have HB3 : Hid (Below w.heap.size w U3) := below_next HB2.out (Nat.le_refl _) hb3
        clear hb3 BS2 BI2 BR2 BQ2 p0 p1 p2 q0 q1 q2 q3 q4
        have p0 := BS3.cell 0
        have p1 := BS3.cell 1
        have p2 := BS3.cell 2
        have q0 := BI3.cell 0
        have q1 := BI3.cell 1
        have q2 := BI3.cell 2
        have q3 := BI3.cell 3
        have q4 := BI3.cell 4
        simp at p0 p1 p2 q0 q1 q2 q3 q4
        go_wp2_with fail
        refine (free_any k (.slice A nw c) A' n c' F U3 (HT.out.next HB3.out) (by omega) (HD.out.next HB3.out)).mono ?_
        rintro e U4 ⟨Al, cl, rfl, hnm, hb4⟩
        have BS4 := BS3.next hb4
        have BI4 := BI3.next hb4
        have BR4 := BR3.next hb4
        have BQ4 := BQ3.next hb4
        have HB4 : Hid (Below w.heap.size w U4) := below_next HB3.out (Nat.le_refl _) hb4
        obtain ⟨fn, hfn⟩ : ∃ fn, fn = (ownL F (-1) n).length := ⟨_, rfl⟩
        rw [← hfn]
        have HFN := Lib.hid (show fn = freeN F n by rw [hfn, freeN_cntP]; exact lstP_length _ _)
        clear hb4 hnm hfn BS3 BI3 BR3 BQ3 p0 p1 p2 q0 q1 q2 q3 q4
        by_cases hfull : fn < K
        · have hfi : (fn : Int) < (K : Int) := by omega
          have FIN := Lib.hid (fun W' (h : Below w.heap.size w W') => allX_full (s := (k : Int)) (nw := nw) (wd := wd) HIN.out HNS.out (by rw [Int.toNat_natCast, Int.toNat_natCast, Int.toNat_natCast, ← HK.out, ← HFN.out]; exact hfull) h)
          have r0 := BR4.cell 0
          have r1 := BR4.cell 1
          have r2 := BR4.cell 2
          have rf0 := BR4.frozen 0
          have rf1 := BR4.frozen 1
          have rf2 := BR4.frozen 2
          have t0 := BQ4.cell 0
          have t1 := BQ4.cell 1
          have t2 := BQ4.cell 2
          have t3 := BQ4.cell 3
          have t4 := BQ4.cell 4
          have tf0 := BQ4.frozen 0
          have tf1 := BQ4.frozen 1
          have tf2 := BQ4.frozen 2
          have tf3 := BQ4.frozen 3
          have tf4 := BQ4.frozen 4
          simp at r0 r1 r2 t0 t1 t2 t3 t4
          have zX2 : w.heap.size + 2 < U4.heap.size := BR4.lt
          have zX3 : w.heap.size + 3 < U4.heap.size := BQ4.lt
          go_wp2
          refine bodyPost_ret (v := .tuple #[zSp9, zInc, .int .i64 0, .int .i64 4]) (by simp [results, Tryd.results10, go_sem, r0, r1, r2, t0, t1, t2, t3, t4]) rfl (FIN.out _ ?_)
          exact below_put8 HB4.out (by omega) (by omega) _ _ _ _ _ _ _ _
        · have hfi : ¬ (fn : Int) < (K : Int) := by omega
          have hroom : K ≤ freeN F n := by have := HFN.out; omega
          have HROOM := Lib.hid hroom
          have hst := fits_stB HFP.out
          have hsp := fits_stamp HV.out.fv HFQ.out (fun h => by
            rcases Nat.eq_zero_or_pos (cntO F sq n) with h1 | h1
            · exact h1
            · exact absurd ⟨h, h1⟩ HNS.out)
          obtain ⟨_, _, _, _, W', hW', _, hch, _⟩ := HFP.out
          obtain rfl : W = W' := by omega
          have CALL := Lib.hid (append9_any k A A' nw c n c' wd F sq bt fi la W K (ceilV W k) U4 (HA.out.next HB4.out) (HT.out.next HB4.out) (HD.out.next HB4.out) HV.out hst hch hroom hsp (decide_eq_true ⟨f1, f2⟩) (decide_eq_true ⟨f3, f4⟩))
          obtain ⟨F5, fi5, la5, hgq, hgr, _⟩ := growG_grown (k := k) HV.out.fv hst hch K hroom
          have HST := Lib.hid hst
          rw [hgq] at CALL
          have hmono := ceilV_mono k (show W ≤ W + d by omega)
          have hm : ceilV W k + K = ceilV (W + d) k := by have := HK.out; unfold moreK at this; omega
          rw [hm] at hgr
          have HGR := Lib.hid hgr
          have HGQ := Lib.hid hgq
          clear hst hsp hch hW' hgr hgq hm hroom hmono
          have p0 := BS4.cell 0
          have p1 := BS4.cell 1
          have p2 := BS4.cell 2
          have q0 := BI4.cell 0
          have q1 := BI4.cell 1
          have q2 := BI4.cell 2
          have q3 := BI4.cell 3
          have q4 := BI4.cell 4
          simp at p0 p1 p2 q0 q1 q2 q3 q4
          go_wp2_with fail
          refine CALL.out.mono ?_
          rintro e U5 ⟨A1, c1, g, c2, rfl, ho, ht, hb5⟩
          have BR5 := BR4.next hb5
          have BQ5 := BQ4.next hb5
          have BI5 := BI4.next hb5
          have zq5 : w.heap.size + 3 < U5.heap.size := BQ5.lt
          have HB5 : Hid (Below w.heap.size w U5) := below_next HB4.out (Nat.le_refl _) hb5
          have HO5 := Lib.hid (ho.lower HB4.out.size)
          have HT5 := Lib.hid (ht.lower HB4.out.size)
          clear hb5 ho ht BS4 BI4 BR4 BQ4 CALL p0 p1 p2 q0 q1 q2 q3 q4
          obtain ⟨X, hX⟩ : ∃ X, X = (U5.alloc (.cells #[.int .i64 k, .slice A1 nw c1, .slice (some ⟨g, 0, none⟩) n c2] 30)).alloc (.cells #[.int .i64 sq, .int .i64 bt, .int .i64 fi5, .int .i64 la5, .int .i64 W] 35) := ⟨_, rfl⟩
          have BO : Blk X U5.heap.size 30 #[.int .i64 k, .slice A1 nw c1, .slice (some ⟨g, 0, none⟩) n c2] := by rw [hX]; exact (Blk.new _ _ _).alloc _
          have BG : Blk X (U5.heap.size + 1) 35 #[.int .i64 sq, .int .i64 bt, .int .i64 fi5, .int .i64 la5, .int .i64 W] := by rw [hX]; exact Blk.newAt _ _ _ _ (by simp)
          have hbx : Below U5.heap.size U5 X := by rw [hX]; exact below_alloc9 ((Below.refl _ _).alloc (Nat.le_refl _) _) _
          have BR6 := BR5.next hbx
          have BQ6 := BQ5.next hbx
          have BI6 := BI5.next hbx
          have i4 := BI6.cell 4
          have zi6 : w.heap.size + 1 < X.heap.size := BI6.lt
          simp at i4
          have HB6 : Hid (Below w.heap.size w X) := below_next HB5.out (Nat.le_refl _) hbx
          have HO6 := Lib.hid (HO5.out.below hbx)
          have HT6 := Lib.hid (HT5.out.below hbx)
          have HX := Lib.hid hX
          have hpos : 0 < ceilV (W + d) k := ceilV_pos (by omega)
          have hcov := ceilV_cover (W + d) k
          obtain ⟨p, hfi5, hpn⟩ : ∃ p : Nat, fi5 = p ∧ p < n := by
            obtain ⟨q, hq1, hq2, _⟩ := HGR.out.2.1.at_ HGR.out.1 HST.out hpos
            exact ⟨q, hq1, hq2⟩
          subst hfi5
          obtain ⟨pz0, pz1⟩ := prod_bd (show p ≤ 64 by omega) (show k ≤ 8 by omega)
          have HSW := Lib.hid (show IntKind.i64.wrap ((p : Int) * 2 ^ k) = (p : Int) * 2 ^ k from IntWalk.i64_in _ (by omega))
          have hvG : ValidP k nw wd n F5 := ValidP.mk_ HV.out.1 HV.out.2.1 HV.out.2.2.1 HGR.out.1 (HV.out.zr.mono (fun j _ h => HGR.out.2.2.1 j h))
          have HVAL := Lib.hid (stp_val hvG HGR.out.2.1 HST.out (show W < ceilV (W + d) k * 2 ^ k by omega))
          obtain ⟨AD, hAD⟩ : ∃ z, z = addrP F5 k p W := ⟨_, rfl⟩
          rw [← hAD] at HVAL
          have HAD := Lib.hid hAD
          have o0 := BO.cell 0
          have o1 := BO.cell 1
          have o2 := BO.cell 2
          have g0 := BG.cell 0
          have g1 := BG.cell 1
          have g2 := BG.cell 2
          have g3 := BG.cell 3
          have g4 := BG.cell 4
          simp at o0 o1 o2 g0 g1 g2 g3 g4
          have zo : U5.heap.size < X.heap.size := BO.lt
          have zg : U5.heap.size + 1 < X.heap.size := BG.lt
          have HBO := Lib.hid BO
          have HBG := Lib.hid BG
          have HBR := Lib.hid BR6
          have HBQ := Lib.hid BQ6
          have z5 := HB5.out.size
          have HXD := Lib.hid (show Below X.heap.size X X.drew from (Below.refl _ _).drew)
          clear hbx hX hAD hcov hvG BO BG BR5 BQ5 BR6 BQ6 BI5 BI6
          have o0d : X.drew.cell? ⟨U5.heap.size, 0, none⟩ = some (.int .i64 k) := o0
          have o1d : X.drew.cell? ⟨U5.heap.size, 1, none⟩ = some (.slice A1 nw c1) := o1
          have o2d : X.drew.cell? ⟨U5.heap.size, 2, none⟩ = some (.slice (some ⟨g, 0, none⟩) n c2) := o2
          have g0d : X.drew.cell? ⟨U5.heap.size + 1, 0, none⟩ = some (.int .i64 sq) := g0
          have g1d : X.drew.cell? ⟨U5.heap.size + 1, 1, none⟩ = some (.int .i64 bt) := g1
          have g2d : X.drew.cell? ⟨U5.heap.size + 1, 2, none⟩ = some (.int .i64 p) := g2
          have g3d : X.drew.cell? ⟨U5.heap.size + 1, 3, none⟩ = some (.int .i64 la5) := g3
          have g4d : X.drew.cell? ⟨U5.heap.size + 1, 4, none⟩ = some (.int .i64 W) := g4
          have i4d : X.drew.cell? ⟨w.heap.size + 1, 4, none⟩ = some (.int .i64 W) := i4
          go_wp2
          rw [← HX.out]
          go_region_held3 (fun w' => w'.cell? ⟨U5.heap.size, 0, none⟩ = some (.int .i64 k) ∧ w'.cell? ⟨U5.heap.size, 1, none⟩ = some (.slice A1 nw c1) ∧ w'.cell? ⟨U5.heap.size, 2, none⟩ = some (.slice (some ⟨g, 0, none⟩) n c2) ∧ w'.cell? ⟨U5.heap.size + 1, 0, none⟩ = some (.int .i64 sq) ∧ w'.cell? ⟨U5.heap.size + 1, 1, none⟩ = some (.int .i64 bt) ∧ w'.cell? ⟨U5.heap.size + 1, 2, none⟩ = some (.int .i64 p) ∧ w'.cell? ⟨U5.heap.size + 1, 3, none⟩ = some (.int .i64 la5) ∧ w'.cell? ⟨U5.heap.size + 1, 4, none⟩ = some (.int .i64 W) ∧ w'.cell? ⟨w.heap.size + 1, 4, none⟩ = some (.int .i64 W))
            (first | (with_reducible exact ⟨o0d, o1d, o2d, g0d, g1d, g2d, g3d, g4d, i4d⟩) | (with_reducible exact ⟨u0, u1, u2, v0, v1, v2, v3, v4, u4⟩))
            (first | (go_at_call 19; rw [HSW.out]; refine (step5_any k A1 (some ⟨g, 0, none⟩) nw c1 n c2 wd F5 ((p : Int) * 2 ^ k) W _ (HO6.out.arr.next HXD.out) (HT6.out.tab.next HXD.out) (by omega) (by omega) (by omega) (by omega)).mono ?_; rintro e X1 ⟨rfl, hb7⟩; rw [HVAL.out]; have u0 := (hb7.cell (p := ⟨U5.heap.size, 0, none⟩) zo).trans o0; have u1 := (hb7.cell (p := ⟨U5.heap.size, 1, none⟩) zo).trans o1; have u2 := (hb7.cell (p := ⟨U5.heap.size, 2, none⟩) zo).trans o2; have v0 := (hb7.cell (p := ⟨U5.heap.size + 1, 0, none⟩) zg).trans g0; have v1 := (hb7.cell (p := ⟨U5.heap.size + 1, 1, none⟩) zg).trans g1; have v2 := (hb7.cell (p := ⟨U5.heap.size + 1, 2, none⟩) zg).trans g2; have v3 := (hb7.cell (p := ⟨U5.heap.size + 1, 3, none⟩) zg).trans g3; have v4 := (hb7.cell (p := ⟨U5.heap.size + 1, 4, none⟩) zg).trans g4; have u4 := (hb7.cell (p := ⟨w.heap.size + 1, 4, none⟩) zi6).trans i4))
          have hx7 := below_next HXD.out (Nat.le_refl _) hb7
          have HB7 : Hid (Below w.heap.size w X1) := below_next HB6.out (Nat.le_refl _) hx7
          have BO7 := HBO.out.next hx7
          have BG7 := HBG.out.next hx7
          have BR7 := HBR.out.next hx7
          have BQ7 := HBQ.out.next hx7
          have HO7 := Lib.hid (HO6.out.below hx7)
          have HT7 := Lib.hid (HT6.out.below hx7)
          have vf4 := BG7.frozen 4
          have zo7 : U5.heap.size < X1.heap.size := BO7.lt
          have zg7 : U5.heap.size + 1 < X1.heap.size := BG7.lt
          obtain ⟨Y, hY⟩ : ∃ Y, Y = X1.setCell ⟨U5.heap.size + 1, 4, none⟩ (.int .i64 ((W : Int) + d)) := ⟨_, rfl⟩
          have v4' := BG7.cell 4
          simp at v4'
          have BO8 : Blk Y U5.heap.size 30 #[.int .i64 k, .slice A1 nw c1, .slice (some ⟨g, 0, none⟩) n c2] := by rw [hY]; exact BO7.far (p := ⟨U5.heap.size + 1, 4, none⟩) (by show U5.heap.size ≠ U5.heap.size + 1; omega) _
          have BG8 : Blk Y (U5.heap.size + 1) 35 #[.int .i64 sq, .int .i64 bt, .int .i64 p, .int .i64 la5, .int .i64 ((W : Int) + d)] := by rw [hY]; exact BG7.set_ 4 _
          have BR8 : Blk Y (w.heap.size + 2) 30 #[.int .i64 0, .slice none 0 0, .slice none 0 0] := by rw [hY]; exact BR7.far (p := ⟨U5.heap.size + 1, 4, none⟩) (by show w.heap.size + 2 ≠ U5.heap.size + 1; omega) _
          have BQ8 : Blk Y (w.heap.size + 3) 35 #[.int .i64 0, .int .i64 0, .int .i64 0, .int .i64 0, .int .i64 0] := by rw [hY]; exact BQ7.far (p := ⟨U5.heap.size + 1, 4, none⟩) (by show w.heap.size + 3 ≠ U5.heap.size + 1; omega) _
          have HB8 : Hid (Below w.heap.size w Y) := by rw [hY]; exact HB7.out.setCell (p := ⟨U5.heap.size + 1, 4, none⟩) (by show w.heap.size ≤ U5.heap.size + 1; omega) _
          have HO8 : Hid (Own Y w.heap.size A1 nw c1 wd) := by rw [hY]; exact HO7.out.box BG7 (by decide) 4 _
          have HT8 : Hid (OwnT Y w.heap.size (some ⟨g, 0, none⟩) n c2 F5) := by rw [hY]; exact HT7.out.box BG7 (by decide) 4 _
          have HY := Lib.hid hY
          clear hY
          have j0 := BO8.cell 0
          have j1 := BO8.cell 1
          have j2 := BO8.cell 2
          have l0 := BG8.cell 0
          have l1 := BG8.cell 1
          have l2 := BG8.cell 2
          have l3 := BG8.cell 3
          have l4 := BG8.cell 4
          simp at j0 j1 j2 l0 l1 l2 l3 l4
          have zo8 : U5.heap.size < Y.heap.size := BO8.lt
          have zg8 : U5.heap.size + 1 < Y.heap.size := BG8.lt
          have r0 := BR8.cell 0
          have r1 := BR8.cell 1
          have r2 := BR8.cell 2
          have rf0 := BR8.frozen 0
          have rf1 := BR8.frozen 1
          have rf2 := BR8.frozen 2
          have t0 := BQ8.cell 0
          have t1 := BQ8.cell 1
          have t2 := BQ8.cell 2
          have t3 := BQ8.cell 3
          have t4 := BQ8.cell 4
          have tf0 := BQ8.frozen 0
          have tf1 := BQ8.frozen 1
          have tf2 := BQ8.frozen 2
          have tf3 := BQ8.frozen 3
          have tf4 := BQ8.frozen 4
          simp at r0 r1 r2 t0 t1 t2 t3 t4
          have zr8 : w.heap.size + 2 < Y.heap.size := BR8.lt
          have zq8 : w.heap.size + 3 < Y.heap.size := BQ8.lt
          have zX2' : w.heap.size + 1 + 1 < Y.heap.size := BR8.lt
          have zX3' : w.heap.size + 1 + 1 + 1 < Y.heap.size := BQ8.lt
          have n1 : U5.heap.size ≠ w.heap.size + 1 + 1 := by omega
          have n2 : U5.heap.size + 1 ≠ w.heap.size + 1 + 1 := by omega
          have n3 : U5.heap.size ≠ w.heap.size + 1 + 1 + 1 := by omega
          have n4 : U5.heap.size + 1 ≠ w.heap.size + 1 + 1 + 1 := by omega
          have hWb : W ≤ 16384 := Nat.le_trans f6 hpl
          have hall : allG k n F sq bt fi la W d = ⟨F5, p, la5⟩ := by unfold allG; rw [Int.toNat_natCast, Int.toNat_natCast, Int.toNat_natCast, ← HK.out]; exact HGQ.out
          have hok : allE k nw wd n F sq bt fi la W d = 0 := allE_ok HIN.out HNS.out (by rw [Int.toNat_natCast, Int.toNat_natCast, Int.toNat_natCast, ← HK.out]; have := HROOM.out; omega)
          have HFIN := Lib.hid (show ∀ w', Own w' w.heap.size A1 nw c1 wd → OwnT w' w.heap.size (some ⟨g, 0, none⟩) n c2 F5 → Below w.heap.size w w' →
              AllX k nw wd n F sq bt fi la W d w (.returned (.tuple #[.agg #[.int .i64 k, .slice A1 nw c1, .slice (some ⟨g, 0, none⟩) n c2], .agg #[.int .i64 sq, .int .i64 bt, .int .i64 p, .int .i64 la5, .int .i64 ((W : Int) + d)], .int .i64 AD, .int .i64 0])) w' from
            fun w' x1 x2 x3 => .inr ⟨hok, A1, c1, g, c2, by rw [hall, Int.toNat_natCast, Int.toNat_natCast, HAD.out], x1, by rw [hall]; exact x2, x3⟩)
          have HBR8 := Lib.hid (show Blk Y (w.heap.size + 1 + 1) 30 #[.int .i64 0, .slice none 0 0, .slice none 0 0] from BR8)
          have HBQ8 := Lib.hid (show Blk Y (w.heap.size + 1 + 1 + 1) 35 #[.int .i64 0, .int .i64 0, .int .i64 0, .int .i64 0, .int .i64 0] from BQ8)
          clear BO8 BG8 BR8 BQ8 hall hok hx7 hb7 BO7 BG7 BR7 BQ7 o0 o1 o2 g0 g1 g2 g3 g4 o0d o1d o2d g0d g1d g2d g3d g4d i4d
          go_wp2
          rw [← HY.out]
          clear u0 u1 u2 v0 v1 v2 v3 v4 v4' vf4 u4
          go_region
          go_wp2
          refine bodyPost_ret (v := .tuple #[.agg #[.int .i64 k, .slice A1 nw c1, .slice (some ⟨g, 0, none⟩) n c2], .agg #[.int .i64 sq, .int .i64 bt, .int .i64 p, .int .i64 la5, .int .i64 ((W : Int) + d)], .int .i64 AD, .int .i64 0]) (by simp [results, Tryd.results10, go_sem, r0, r1, r2, t0, t1, t2, t3, t4]) rfl (HFIN.out _ ?_ ?_ ?_)
          · exact (HO8.out.box8 HBR8.out HBQ8.out (by decide) (by decide) (by omega) _ _ _ _ _ _ _ _).drew
          · exact (HT8.out.box8 HBR8.out HBQ8.out (by decide) (by decide) (by omega) _ _ _ _ _ _ _ _).drew
          · exact (below_put8 HB8.out (by omega) (by omega) _ _ _ _ _ _ _ _).drew
      · have tok : True := trivial
        have r0 := BR2.cell 0
        have r1 := BR2.cell 1
        have r2 := BR2.cell 2
        have rf0 := BR2.frozen 0
        have rf1 := BR2.frozen 1
        have rf2 := BR2.frozen 2
        have t0 := BQ2.cell 0
        have t1 := BQ2.cell 1
        have t2 := BQ2.cell 2
        have t3 := BQ2.cell 3
        have t4 := BQ2.cell 4
        have tf0 := BQ2.frozen 0
        have tf1 := BQ2.frozen 1
        have tf2 := BQ2.frozen 2
        have tf3 := BQ2.frozen 3
        have tf4 := BQ2.frozen 4
        simp at r0 r1 r2 t0 t1 t2 t3 t4
        go_wp2
        refine bodyPost_ret (v := .tuple #[.agg #[.int .i64 0, .slice none 0 0, .slice none 0 0], .agg #[.int .i64 0, .int .i64 0, .int .i64 0, .int .i64 0, .int .i64 0], .int .i64 0, .int .i64 5]) (by simp [results, Tryd.results10, go_sem, r0, r1, r2, t0, t1, t2, t3, t4]) rfl (allX_state HIN.out (HSTA.out.2 (of_decide_eq_true HBB.out.symm)) ?_)
        exact below_put8 HB2.out (by omega) (by omega) _ _ _ _ _ _ _ _


/-- Alloc of package bump, for every raw space, every increment and every number. -/
theorem all9_any (s : Int) (A A' : Option Addr) (nw c n c' : Nat) (wd : Nat → Int) (F : Nat → Fr) (sq bt fi la wo d : Int) (w : World) (hA : Arr w w.heap.size A nw c wd) (hT : Tab w w.heap.size A' n c' F) (hD : Db w) :
    Calls Tryd.prog 10 #[.agg #[.int .i64 s, .slice A nw c, .slice A' n c'], .agg #[.int .i64 sq, .int .i64 bt, .int .i64 fi, .int .i64 la, .int .i64 wo], .int .i64 d] w (AllX s nw wd n F sq bt fi la wo d w) := by
  by_cases h : incB s nw wd n F sq bt fi la wo = false ∨ d < 1 ∨ 48 < d
  · exact allBad9_any s A A' nw c n c' wd F sq bt fi la wo d w hA hT h
  · have hi : incB s nw wd n F sq bt fi la wo = true := by
      cases e : incB s nw wd n F sq bt fi la wo
      · exact absurd (.inl e) h
      · rfl
    obtain ⟨k, rfl, _⟩ := valid_nat (incB_yes hi).1
    obtain ⟨m, rfl⟩ : ∃ m : Nat, d = m := ⟨d.toNat, by omega⟩
    exact allOk9_any k A A' nw c n c' wd F sq bt fi la wo m w hA hT hD hi (by omega)
end Go.Proofs.YthcfcciemjkilaaDoor
