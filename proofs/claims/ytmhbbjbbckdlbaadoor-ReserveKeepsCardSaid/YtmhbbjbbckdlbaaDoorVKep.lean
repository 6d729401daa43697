/-
  The walk of ReserveKeeps.
-/
import Derived.Test.YtmhbbjbbckdlbaaDoorVKpm
import Derived.Test.YtmhbbjbbckdlbaaDoorVMor
namespace Go.Proofs.YtmhbbjbbckdlbaaDoor
open Go.RowKit
set_option maxRecDepth 100000
set_option linter.unusedVariables false

theorem tdiv8 {x : Int} (h0 : -9223372036854775808 ≤ x) (h1 : x ≤ 9223372036854775807) : -9223372036854775808 ≤ x.tdiv 8 ∧ x.tdiv 8 ≤ 9223372036854775807 := by
  by_cases h : 0 ≤ x
  · rw [Int.tdiv_eq_ediv_of_nonneg h]
    omega
  · obtain ⟨y, rfl⟩ : ∃ y, x = -y := ⟨-x, by omega⟩
    rw [Int.neg_tdiv, Int.tdiv_eq_ediv_of_nonneg (by omega)]
    omega
/-- The box of an increment that may grow, with what is known of it. -/
def KepBox (K m mk : Nat) (F : Nat → Fr) (b : Nat) (q : List IncR) (V2 wx : World) (IB : Nat) : Prop := ∃ (y0 y1 y2 y3 : Int) (Wn : Nat), CanG K m mk F b q y0 y1 y2 y3 Wn ∧ Wn ≤ 16384 ∧ Blk wx IB 38 #[.int .i64 y0, .int .i64 y1, .int .i64 y2, .int .i64 y3, .int .i64 (Wn : Nat)] ∧ Below V2.heap.size V2 wx

set_option maxHeartbeats 16000000 in
theorem walkKeeps16 (Al : Option Addr) (nl cl : Nat) (which n : Int) (w : World) (hL : ListP w w.heap.size Al nl cl) (hDb : Db w) (g0 : -9223372036854775808 ≤ which) (g1 : which ≤ 9223372036854775807) (n0 : -9223372036854775808 ≤ n) (n1 : n ≤ 9223372036854775807) :
    Calls Tryd.prog 4 #[.slice Al nl cl, .int .i64 which, .int .i64 n] w fun e w' => e = .returned (.bool true) ∧ Below w.heap.size w w' := by
  have HL := Lib.hid hL
  have HD0 := Lib.hid hDb
  clear hL hDb
  go_enter Tryd.func4, Tryd.ntmps4
  go_wp2_with fail
  refine (deck_any Al nl cl w HL.out).mono ?_
  rintro e U2 ⟨rfl, hd, hb, hz⟩
  have HDK := Lib.hid hd
  have HBU2 := Lib.hid hb
  clear hd hb
  go_wp2_with fail
  refine (belts_any w.heap.size U2 HDK.out).mono ?_
  rintro e V ⟨s, A, c, R, f, K, m, B, d, gb, d', wd, F, I, QA, QC, rfl, hcf, hsp, hqa, hG⟩
  obtain ⟨mk, hmk⟩ : ∃ mk, mk = m * 2 ^ K := ⟨_, rfl⟩
  obtain ⟨rl, hrl⟩ : ∃ x, x = R.length := ⟨_, rfl⟩
  obtain ⟨Q, hQ⟩ : ∃ Q, Q = qN R.length I := ⟨_, rfl⟩
  have hql : Q.length = rl := by rw [hQ, qN_len, hrl]
  rw [← hmk, ← hrl]
  rw [← hQ] at hqa
  have hrl3 : 3 ≤ rl ∧ rl ≤ 4 := by rw [hrl]; exact hcf.2.2.2.2
  obtain ⟨V2, hV2⟩ : ∃ W, W = (V.alloc (.cells #[.string s, .slice A rl c, .int .i64 f] 27)).alloc (.cells #[.int .i64 K, .slice B mk d, .slice (some ⟨gb, 0, none⟩) m d'] 31) := ⟨_, rfl⟩
  obtain ⟨CB, hCB⟩ : ∃ b, b = V.heap.size := ⟨_, rfl⟩
  have hb2 : Below V.heap.size V V2 := by rw [hV2]; exact ((Below.refl _ _).alloc (Nat.le_refl _) _).alloc (by simp) _
  have HBC := Lib.hid (show Blk V2 CB 27 #[.string s, .slice A rl c, .int .i64 f] by rw [hV2, hCB]; exact (Blk.new _ _ _).alloc _)
  have HBS := Lib.hid (show Blk V2 (CB + 1) 31 #[.int .i64 K, .slice B mk d, .slice (some ⟨gb, 0, none⟩) m d'] by rw [hV2, hCB]; exact Blk.newAt _ _ _ _ (by simp))
  have HV2 := Lib.hid (below_next (below_turn HBU2.out hG (by omega)) (Nat.le_refl _) hb2)
  have HCF := Lib.hid (hcf.next hb2)
  have HSP := Lib.hid (hsp.next hb2)
  have HQF := Lib.hid (hqa.next hb2)
  have HDB := Lib.hid (Db.next HD0.out HV2.out)
  obtain ⟨kk0, kk1, m0, m1, hoA, hoT, hvo, hall, halr, hcov⟩ := HSP.out
  rw [← hmk] at hoA hvo
  have HAF := Lib.hid hoA
  have HTF := Lib.hid hoT
  have HVO := Lib.hid hvo
  have HALL := Lib.hid hall
  have HCOV := Lib.hid hcov
  have HMK := Lib.hid hmk
  obtain ⟨cp, hcp⟩ : ∃ b, b = cplB s R f := ⟨_, rfl⟩
  obtain ⟨us, hus⟩ : ∃ b, b = usN F m := ⟨_, rfl⟩
  obtain ⟨lg, hlg⟩ : ∃ b, b = lgQ K Q := ⟨_, rfl⟩
  obtain ⟨fr, hfr⟩ : ∃ b, b = cntP (owB F (-1)) m := ⟨_, rfl⟩
  have N1 := Lib.hid (show ∀ W, Below V2.heap.size V2 W → Calls Tryd.prog 8 #[.agg #[.string s, .slice A rl c, .int .i64 f], .agg #[.int .i64 K, .slice B mk d, .slice (some ⟨gb, 0, none⟩) m d'], .slice QA rl QC] W fun e w' => e = .returned (.int .i64 (needZ cp us lg)) ∧ Below W.heap.size W w' from fun W hW => by
    rw [hcp, hus, hlg]
    have e1 := hrl; have e2 := hql; subst e1
    have h := devNeeded_any s A c R f K B mk d (some ⟨gb, 0, none⟩) m d' F QA QC Q W (HCF.out.1.next hW) HCF.out.2.1 (by have := HCF.out.2.2.1; omega) (HTF.out.next hW) (by omega) (HQF.out.next hW)
    rw [e2] at h
    exact h)
  have N2 := Lib.hid (show ∀ W, Below V2.heap.size V2 W → Calls Tryd.prog 9 #[.agg #[.string s, .slice A rl c, .int .i64 f], .agg #[.int .i64 K, .slice B mk d, .slice (some ⟨gb, 0, none⟩) m d'], .slice QA rl QC] W fun e w' => e = .returned (.int .i64 (needZ cp us lg)) ∧ Below W.heap.size W w' from fun W hW => by
    rw [hcp, hus, hlg]
    have e1 := hrl; have e2 := hql; subst e1
    have h := refNeeded_any s A c R f K B mk d (some ⟨gb, 0, none⟩) m d' F QA QC Q W (HCF.out.1.next hW) HCF.out.2.1 (by have := HCF.out.2.2.1; omega) (HTF.out.next hW) (by omega) (HQF.out.next hW)
    rw [e2] at h
    exact h)
  have H1 := Lib.hid (show ∀ W, Below V2.heap.size V2 W → Calls Tryd.prog 10 #[.agg #[.string s, .slice A rl c, .int .i64 f], .agg #[.int .i64 K, .slice B mk d, .slice (some ⟨gb, 0, none⟩) m d'], .slice QA rl QC] W fun e w' => e = .returned (.bool (decide (needZ cp us lg ≤ (fr : Nat)))) ∧ Below W.heap.size W w' from fun W hW => by
    rw [hcp, hus, hlg, hfr]
    have e1 := hrl; have e2 := hql; subst e1
    have h := devHolds_any s A c R f K B mk d (some ⟨gb, 0, none⟩) m d' F QA QC Q W (HCF.out.1.next hW) HCF.out.2.1 (by have := HCF.out.2.2.1; omega) (HTF.out.next hW) (by omega) (HQF.out.next hW) (HDB.out.next hW)
    rw [e2] at h
    exact h)
  have H2 := Lib.hid (show ∀ W, Below V2.heap.size V2 W → Calls Tryd.prog 11 #[.agg #[.string s, .slice A rl c, .int .i64 f], .agg #[.int .i64 K, .slice B mk d, .slice (some ⟨gb, 0, none⟩) m d'], .slice QA rl QC] W fun e w' => e = .returned (.bool (decide (needZ cp us lg ≤ (fr : Nat)))) ∧ Below W.heap.size W w' from fun W hW => by
    rw [hcp, hus, hlg, hfr]
    have e1 := hrl; have e2 := hql; subst e1
    have h := refHolds_any s A c R f K B mk d (some ⟨gb, 0, none⟩) m d' F QA QC Q W (HCF.out.1.next hW) HCF.out.2.1 (by have := HCF.out.2.2.1; omega) (HTF.out.next hW) (by omega) (HQF.out.next hW)
    rw [e2] at h
    exact h)
  have G1 := Lib.hid (show ∀ W, Below V2.heap.size V2 W → ∀ (sq bt fi la : Int) (Wn D : Nat), Wn ≤ 16384 → D ≤ 48 → Calls Tryd.prog 13 #[.agg #[.string s, .slice A rl c, .int .i64 f], .agg #[.int .i64 K, .slice B mk d, .slice (some ⟨gb, 0, none⟩) m d'], .slice QA rl QC, .agg #[.int .i64 sq, .int .i64 bt, .int .i64 fi, .int .i64 la, .int .i64 (Wn : Nat)], .int .i64 (D : Nat)] W fun e w' => e = .returned (.bool (grB cp m us lg (ceilV Wn K : Nat) (moreK K Wn D))) ∧ Below W.heap.size W w' from fun W hW sq bt fi la Wn D h1 h2 => by
    rw [hcp, hus, hlg]
    have e1 := hrl; have e2 := hql; subst e1
    have h := devGrants_at s A c R f K B mk d (some ⟨gb, 0, none⟩) m d' F QA QC Q W sq bt fi la Wn D h1 h2 (by omega) (HCF.out.1.next hW) HCF.out.2.1 (by have := HCF.out.2.2.1; omega) (HTF.out.next hW) (by omega) (HQF.out.next hW) (HDB.out.next hW)
    rw [e2] at h
    exact h)
  have G2 := Lib.hid (show ∀ W, Below V2.heap.size V2 W → ∀ (sq bt fi la : Int) (Wn D : Nat), Wn ≤ 16384 → D ≤ 48 → Calls Tryd.prog 14 #[.agg #[.string s, .slice A rl c, .int .i64 f], .agg #[.int .i64 K, .slice B mk d, .slice (some ⟨gb, 0, none⟩) m d'], .slice QA rl QC, .agg #[.int .i64 sq, .int .i64 bt, .int .i64 fi, .int .i64 la, .int .i64 (Wn : Nat)], .int .i64 (D : Nat)] W fun e w' => e = .returned (.bool (grB cp m us lg (ceilV Wn K : Nat) (moreK K Wn D))) ∧ Below W.heap.size W w' from fun W hW sq bt fi la Wn D h1 h2 => by
    rw [hcp, hus, hlg]
    have e1 := hrl; have e2 := hql; subst e1
    have h := refGrants_at s A c R f K B mk d (some ⟨gb, 0, none⟩) m d' F QA QC Q W sq bt fi la Wn D h1 h2 (by omega) (HCF.out.1.next hW) HCF.out.2.1 (by have := HCF.out.2.2.1; omega) (HTF.out.next hW) (by omega) (HQF.out.next hW)
    rw [e2] at h
    exact h)
  have HFR := Lib.hid (show us + fr = m by rw [hus, hfr]; unfold usN; have := cntP_le (owB F (-1)) m; omega)
  have HUS := Lib.hid hus
  have HFRE := Lib.hid hfr
  have HLG := Lib.hid hlg
  have HCP := Lib.hid hcp
  have HQE := Lib.hid hQ
  have HQL := Lib.hid hql
  have HRL := Lib.hid hrl
  have HVE := Lib.hid hV2
  have HCE := Lib.hid hCB
  clear hcf hsp hqa hG hmk hrl hQ hql hV2 hCB hb2 hoA hoT hvo hall halr hcov hcp hus hlg hfr HBU2 HDK hz HL HD0
  have hFL : Q.flatten = (qOf I).flatten := by rw [HQE.out]; exact qN_flat (by rw [← HRL.out]; omega) (allP_belts HALL.out)
  have HFLE := Lib.hid hFL
  have HIN := Lib.hid (show ∀ i ∈ Q.flatten, ∃ Wn : Nat, i.wo = Wn ∧ Wn ≤ 16384 from fun i hi => by
    rw [hFL] at hi
    obtain ⟨t, ht⟩ := List.mem_iff_getElem?.1 ((flat_memV HALL.out).1 hi)
    obtain ⟨⟨_, _, _, _, Wn, hwn, _, hcnt⟩, _⟩ := HALL.out t i ht
    refine ⟨Wn, hwn, ?_⟩
    have h1 := ceilV_cover Wn K
    have h2 := cntO_le F i.sq m
    have h3 : 2 ^ K ≤ 16 := by rcases (by omega : K = 3 ∨ K = 4) with rfl | rfl <;> decide
    have h4 : ceilV Wn K * 2 ^ K ≤ 10 * 16 := Nat.mul_le_mul (by omega) h3
    omega)
  clear hFL
  obtain ⟨dn, hdn⟩ : ∃ x : Nat, (x : Int) = n % 48 := ⟨(n % 48).toNat, by have := Int.emod_nonneg n (show (48 : Int) ≠ 0 by decide); omega⟩
  have dnl : (dn : Int) < 48 := by rw [hdn]; exact Int.emod_lt_of_pos _ (by decide)
  have hmdn := fun W => mod_any n 48 (by decide) (by decide) n0 n1 W
  rw [← hdn] at hmdn
  clear hdn
  obtain ⟨b, hb0⟩ : ∃ x : Nat, (x : Int) = which % (rl : Int) := ⟨(which % (rl : Int)).toNat, by have := Int.emod_nonneg which (show (rl : Int) ≠ 0 by omega); omega⟩
  have hbl : (b : Int) < rl := by rw [hb0]; exact Int.emod_lt_of_pos _ (by omega)
  have hmb := fun W => mod_any which (rl : Int) (by omega) (by omega) g0 g1 W
  rw [← hb0] at hmb
  obtain ⟨q, hq⟩ := nth_of (show b < Q.length by rw [HQL.out]; omega)
  have HQ := Lib.hid hq
  have HQM := Lib.hid (show ∀ i ∈ q, i.bt = b ∧ i.sq ≤ 50 ∧ FitI K m mk F i ∧ 0 < i.wo from fun i hi => by
    have h := hq
    rw [HQE.out, qN_get (by rw [← HRL.out]; omega)] at h
    injection h with h
    subst h
    rw [List.mem_filter, beq_iff_eq] at hi
    obtain ⟨t, ht⟩ := List.mem_iff_getElem?.1 hi.1
    obtain ⟨h1, h2, _⟩ := HALL.out t i ht
    exact ⟨hi.2, h1.2.1, inc_fit h1 h2 HMK.out, h2⟩)
  clear hb0 hq
  obtain ⟨W3, hW3⟩ : ∃ W, W = V2.alloc (.cells #[.int .i64 99, .int .i64 (b : Int), .int .i64 (-1), .int .i64 (-1), .int .i64 0] 38) := ⟨_, rfl⟩
  have hb3 : Below V2.heap.size V2 W3 := by rw [hW3]; exact (Below.refl _ _).alloc (Nat.le_refl _) _
  obtain ⟨IB, hIB⟩ : ∃ b, b = V2.heap.size := ⟨_, rfl⟩
  have HI3 := Lib.hid (show Blk W3 IB 38 #[.int .i64 99, .int .i64 (b : Int), .int .i64 (-1), .int .i64 (-1), .int .i64 ((0 : Nat) : Int)] by rw [hW3, hIB]; exact Blk.new _ _ _)
  have HB3 := Lib.hid hb3
  have hq3 := HQF.out.next hb3
  have HYG := Lib.hid (show Calls Tryd.prog 16 #[.slice QA rl QC, .int .i64 (b : Int)] W3 (GivesI q.getLast? W3) from by
    have h := refYoungest_any QA QC Q b W3 hq3 (by rw [HQL.out]; omega)
    rw [HQL.out, show youV Q b = q.getLast? by simp [youV, HQ.out]] at h
    exact h)
  have HW3 := Lib.hid hW3
  have HIBE := Lib.hid hIB
  have p0 := HBC.out.cell 0
  have p1 := HBC.out.cell 1
  have p2 := HBC.out.cell 2
  simp at p0 p1 p2
  have lc := HBC.out.lt
  clear hW3 hb3 hIB hq3
  go_upto_region 3 with fail
  rw [← HCE.out, ← HVE.out]
  go_wp2_with fail
  refine (hmb _).mono ?_
  rintro e w1 ⟨rfl, rfl⟩
  go_upto_region 4 with fail
  rw [← HW3.out, ← HIBE.out]
  clear p0 p1 p2 lc
  have r1 := HI3.out.cell 1
  simp at r1
  have li := HI3.out.lt
  go_wp2_with fail
  refine HYG.out.mono ?_
  rintro e W4 ⟨rfl, hb⟩
  have HB4 := Lib.hid (HB3.out.trans (Below.mono hb HB3.out.size))
  have HI4 := Lib.hid (HI3.out.next hb)
  obtain ⟨oy, hoy⟩ : ∃ o, o = q.getLast? := ⟨_, rfl⟩
  rw [← hoy]
  have HOY := Lib.hid hoy
  clear hb hoy r1 li
  obtain ⟨y, hy⟩ : ∃ y, y = oy.getD inc0 := ⟨_, rfl⟩
  obtain ⟨ob, hob⟩ : ∃ b, b = oy.isSome := ⟨_, rfl⟩
  rw [← hy, ← hob]
  have hyw : ob = true → y ∈ q := fun h => by
    rcases hoo : oy with _ | y'
    · rw [hoo] at hob; rw [hob] at h; cases h
    · rw [hoo] at hy
      rw [hy]
      exact List.mem_of_getLast? (by rw [← HOY.out, hoo]; rfl)
  have HYW := Lib.hid (show ob = true → ∃ Wn : Nat, y.wo = Wn ∧ Wn ≤ 16384 ∧ CanG K m mk F b q y.sq y.bt y.fi y.la Wn from fun h => by
    have h1 := hyw h
    obtain ⟨h2, h3, h4, h5⟩ := HQM.out y h1
    obtain ⟨Wn, h6, h7⟩ := HIN.out y (List.mem_flatten.2 ⟨q, List.mem_iff_getElem?.2 ⟨b, HQ.out⟩, h1⟩)
    refine ⟨Wn, h6, h7, .inr ⟨?_, by omega, h2, ?_⟩⟩
    · rw [← h6]; exact h1
    · rw [← h6]; exact h4)
  simp only [IncR.v]
  generalize y.sq = y0 at *
  generalize y.bt = y1 at *
  generalize y.fi = y2 at *
  generalize y.la = y3 at *
  generalize y.wo = y4 at *
  obtain ⟨W5, hW5⟩ : ∃ W, W = W4.alloc (.cells #[.int .i64 y0, .int .i64 y1, .int .i64 y2, .int .i64 y3, .int .i64 y4] 38) := ⟨_, rfl⟩
  have hb5 : Below W4.heap.size W4 W5 := by rw [hW5]; exact (Below.refl _ _).alloc (Nat.le_refl _) _
  obtain ⟨YB, hYB⟩ : ∃ b, b = W4.heap.size := ⟨_, rfl⟩
  have HY5 := Lib.hid (show Blk W5 YB 38 #[.int .i64 y0, .int .i64 y1, .int .i64 y2, .int .i64 y3, .int .i64 y4] by rw [hW5, hYB]; exact Blk.new _ _ _)
  have HI5 := Lib.hid (HI4.out.next hb5)
  have HB5 := Lib.hid (HB4.out.trans (hb5.mono HB4.out.size))
  have hiy : IB ≠ YB := by have := HI4.out.lt; omega
  have HW5 := Lib.hid hW5
  have HYBE := Lib.hid hYB
  clear hy hob hW5 hb5 hYB hyw
  go_upto_region 5 with fail
  rw [← HW5.out, ← HYBE.out]
  go_cut [49] (fun q wx => PickB ob W5 q wx)
  case first =>
    cases ob with
    | false =>
      go_wp2_with fail
      go_meet
      exact ⟨false, rfl, fun h => (by cases h), rfl⟩
    | true =>
      have t0 : -9223372036854775808 ≤ which.tdiv 8 := (tdiv8 g0 g1).1
      have t1 : which.tdiv 8 ≤ 9223372036854775807 := (tdiv8 g0 g1).2
      go_wp2_with fail
      refine (mod_any (which.tdiv 8) 3 (by decide) (by decide) t0 t1 W5).mono ?_
      rintro e w' ⟨rfl, rfl⟩
      go_wp2_with fail
      go_meet
      exact ⟨_, rfl, fun _ => rfl, rfl⟩
  case rest =>
    obtain ⟨bq, rfl, hbo, rfl⟩ := hcut
    have HBO := Lib.hid hbo
    clear hbo
    go_upto_if 49 with fail
    go_cut [] (fun wx => KepBox K m mk F b q V2 wx IB)
    case first =>
      cases bq with
      | false =>
        go_wp2_with fail
        go_meet
        exact ⟨99, b, -1, -1, 0, .inl ⟨rfl, rfl, rfl, rfl, rfl⟩, by omega, HI5.out, HB5.out⟩
      | true =>
        obtain ⟨Wn, rfl, hwn, hcan⟩ := HYW.out (HBO.out rfl)
        have HCAN := Lib.hid hcan
        have p0 := HY5.out.cell 0
        have p1 := HY5.out.cell 1
        have p2 := HY5.out.cell 2
        have p3 := HY5.out.cell 3
        have p4 := HY5.out.cell 4
        have r0 := HI5.out.cell 0
        have r1 := HI5.out.cell 1
        have r2 := HI5.out.cell 2
        have r3 := HI5.out.cell 3
        have r4 := HI5.out.cell 4
        have f0 := HI5.out.frozen 0
        have f1 := HI5.out.frozen 1
        have f2 := HI5.out.frozen 2
        have f3 := HI5.out.frozen 3
        have f4 := HI5.out.frozen 4
        simp at p0 p1 p2 p3 p4 r0 r1 r2 r3 r4
        have hle : V2.heap.size ≤ IB := by rw [HIBE.out]; omega
        have HLE := Lib.hid hle
        have HWN := Lib.hid hwn
        clear hle hwn hcan
        go_wp2_with fail
        go_meet
        exact ⟨y0, y1, y2, y3, Wn, HCAN.out, HWN.out, ((((HI5.out.set_ 0 _).set_ 1 _).set_ 2 _).set_ 3 _).set_ 4 _, below_put5 HB5.out HLE.out _ _ _ _ _⟩
    case rest =>
      obtain ⟨y0, y1, y2, y3, Wn, hcan, hwn, hbi, hbv⟩ := hcut
      have HBI := Lib.hid hbi
      have HBV := Lib.hid hbv
      have HWN := Lib.hid hwn
      have HCAN := Lib.hid hcan
      obtain ⟨W6, hW6⟩ : ∃ W, W = wc := ⟨_, rfl⟩
      subst hW6
      clear hbi hbv hwn hcan HY5 HI5 HB5 HBO HYW HYG HW5 HYBE HI4 HB4 HI3 HB3 HW3 HIBE hmb
      obtain ⟨D, hD⟩ : ∃ x : Nat, x = 1 + dn := ⟨_, rfl⟩
      have hD2 : IntKind.i64.wrap (1 + (dn : Int)) = (D : Int) := by rw [IntWalk.i64_in _ (by omega)]; omega
      have HD1 := Lib.hid (show 1 ≤ D by omega)
      have HD48 := Lib.hid (show D ≤ 48 by omega)
      clear hD dnl
      go_wp2_with fail
      refine (hmdn _).mono ?_
      rintro e w1 ⟨rfl, rfl⟩
      clear hmdn
      go_upto_region 8 with fail
      have BC := HBC.out.next HBV.out
      have BS := HBS.out.next HBV.out
      have p0 := BC.cell 0
      have p1 := BC.cell 1
      have p2 := BC.cell 2
      have s0 := BS.cell 0
      have s1 := BS.cell 1
      have s2 := BS.cell 2
      simp at p0 p1 p2 s0 s1 s2
      have lc := BC.lt
      have ls := BS.lt
      clear BC BS
      have BI := HBI.out
      have i0 := BI.cell 0
      have i1 := BI.cell 1
      have i2 := BI.cell 2
      have i3 := BI.cell 3
      have i4 := BI.cell 4
      simp at i0 i1 i2 i3 i4
      have li := BI.lt
      clear BI
      go_wp2_with fail
      refine (G1.out W6 HBV.out y0 y1 y2 y3 Wn D HWN.out HD48.out).mono ?_
      rintro e W7 ⟨rfl, hb⟩
      obtain ⟨X, hX⟩ : ∃ x, x = moreK K Wn D := ⟨_, rfl⟩
      rw [← hX]
      obtain ⟨gr, hgr⟩ : ∃ b, b = grB cp m us lg (ceilV Wn K : Nat) X := ⟨_, rfl⟩
      rw [← hgr]
      have HGR := Lib.hid hgr
      have HX := Lib.hid hX
      have HB7 := Lib.hid hb
      have HBV7 := Lib.hid (HBV.out.trans (Below.mono hb HBV.out.size))
      have hgx : X = 0 → gr = true := fun h => by rw [hgr]; unfold grB; rw [if_pos h]
      have HGX := Lib.hid hgx
      clear hb hgr hX hD2 hgx
      clear p0 p1 p2 s0 s1 s2 lc ls
      clear i0 i1 i2 i3 i4 li
      go_upto_region 9 with fail
      go_cut [68] (fun q wx => q = .bool false ∧ Below W7.heap.size W7 wx)
      case first =>
        have BC := HBC.out.next HBV7.out
        have BS := HBS.out.next HBV7.out
        have p0 := BC.cell 0
        have p1 := BC.cell 1
        have p2 := BC.cell 2
        have s0 := BS.cell 0
        have s1 := BS.cell 1
        have s2 := BS.cell 2
        simp at p0 p1 p2 s0 s1 s2
        have lc := BC.lt
        have ls := BS.lt
        clear BC BS
        have BI := HBI.out.next HB7.out
        have i0 := BI.cell 0
        have i1 := BI.cell 1
        have i2 := BI.cell 2
        have i3 := BI.cell 3
        have i4 := BI.cell 4
        simp at i0 i1 i2 i3 i4
        have li := BI.lt
        clear BI
        go_wp2_with fail
        refine (refExtra9_any K Wn D _ _ y0 y1 y2 y3 W7).mono ?_
        rintro e W8 ⟨rfl, hb⟩
        rw [extZ_natV HWN.out HD48.out (by omega), ← HX.out]
        have HB8 := Lib.hid hb
        clear hb
        clear p0 p1 p2 s0 s1 s2 lc ls
        clear i0 i1 i2 i3 i4 li
        by_cases hx : X = 0
        · have hg := HGX.out hx
          subst hx
          subst hg
          go_wp2_with fail
          go_meet
          exact ⟨rfl, HB8.out⟩
        · have hx2 : ¬ ((X : Int) = 0) := by omega
          go_wp2_with fail
          go_meet
          exact ⟨rfl, HB8.out⟩
      case rest =>
        obtain ⟨rfl, hb⟩ := hcut
        have HBV8 := Lib.hid (HBV7.out.trans (Below.mono hb HBV7.out.size))
        have HB8 := Lib.hid (HB7.out.trans (Below.mono hb HB7.out.size))
        clear hb
        obtain ⟨W8, hW8⟩ : ∃ W, W = wc := ⟨_, rfl⟩
        subst hW8
        cases gr with
        | false =>
          go_wp2_with fail
          refine (awake16_any _ (Db.next HDB.out HBV8.out)).mono ?_
          rintro e w8 ⟨rfl, hb⟩
          have HBF := Lib.hid (below_next (below_next HV2.out (Nat.le_refl _) HBV8.out) (Nat.le_refl _) hb)
          clear hb
          go_wp2
          go_ret
          exact ⟨rfl, HBF.out⟩
        | true =>
          have hroom : X ≤ fr := by
            have h1 := grB_room HGR.out.symm (show us ≤ m by have := HFR.out; omega)
            have := HFR.out
            omega
          have hal : allE K mk wd m F y0 y1 y2 y3 Wn D = 0 := by
            rw [HX.out, HFRE.out] at hroom
            exact can_all (show b < 4 by omega) HVO.out.1 HVO.out.2.1 HCAN.out HD1.out HD48.out hroom
          have HROOM := Lib.hid hroom
          have HALE := Lib.hid hal
          clear hroom hal
          go_upto_region 13 with fail
          have BC := HBC.out.next HBV8.out
          have BS := HBS.out.next HBV8.out
          have p0 := BC.cell 0
          have p1 := BC.cell 1
          have p2 := BC.cell 2
          have s0 := BS.cell 0
          have s1 := BS.cell 1
          have s2 := BS.cell 2
          simp at p0 p1 p2 s0 s1 s2
          have lc := BC.lt
          have ls := BS.lt
          clear BC BS
          have BI := HBI.out.next HB8.out
          have i0 := BI.cell 0
          have i1 := BI.cell 1
          have i2 := BI.cell 2
          have i3 := BI.cell 3
          have i4 := BI.cell 4
          simp at i0 i1 i2 i3 i4
          have li := BI.lt
          clear BI
          go_wp2_with fail
          refine (refAll9_any K B (some ⟨gb, 0, none⟩) mk d m d' wd F y0 y1 y2 y3 Wn D W8 (HAF.out.next HBV8.out) (HTF.out.next HBV8.out)).mono ?_
          rintro e W9 (⟨x, h1, h2, _⟩ | ⟨_, A1, c1, g, c2, rfl, ho, ht, hb⟩)
          · exact absurd (h1.symm.trans HALE.out) h2
          clear p0 p1 p2 s0 s1 s2 lc ls
          clear i0 i1 i2 i3 i4 li
          rw [Int.toNat_natCast]
          have hfree := all_free HALE.out
          obtain ⟨Wd, hwd⟩ : ∃ x, x = Wn + D := ⟨_, rfl⟩
          rw [show (Wn : Int) + D = (Wd : Int) by omega]
          have HWD := Lib.hid hwd
          generalize allG K m F y0 y1 y2 y3 Wn D = GG at *
          obtain ⟨F', fi', la'⟩ := GG
          dsimp only at hfree ho ht ⊢
          generalize addrP F' K fi' (Wn : Int).toNat = av
          rw [← HX.out, ← HFRE.out] at hfree
          have HFREE := Lib.hid hfree
          have HO := Lib.hid ho
          have HT9 := Lib.hid ht
          have HB9 := Lib.hid hb
          have HBV9 := Lib.hid (HBV8.out.trans (Below.mono hb HBV8.out.size))
          clear hwd hfree ho ht hb
          have hy1 := can_belt HCAN.out
          subst hy1
          obtain ⟨W10, hW10⟩ : ∃ W, W = (W9.alloc (.cells #[.int .i64 K, .slice A1 mk c1, .slice (some ⟨g, 0, none⟩) m c2] 31)).alloc (.cells #[.int .i64 y0, .int .i64 (b : Int), .int .i64 fi', .int .i64 la', .int .i64 (Wd : Int)] 38) := ⟨_, rfl⟩
          obtain ⟨SB, hSB⟩ : ∃ b, b = W9.heap.size := ⟨_, rfl⟩
          have hb10 : Below W9.heap.size W9 W10 := by rw [hW10]; exact ((Below.refl _ _).alloc (Nat.le_refl _) _).alloc (by simp) _
          have HS10 := Lib.hid (show Blk W10 SB 31 #[.int .i64 K, .slice A1 mk c1, .slice (some ⟨g, 0, none⟩) m c2] by rw [hW10, hSB]; exact (Blk.new _ _ _).alloc _)
          have HJ10 := Lib.hid (show Blk W10 (SB + 1) 38 #[.int .i64 y0, .int .i64 (b : Int), .int .i64 fi', .int .i64 la', .int .i64 (Wd : Int)] by rw [hW10, hSB]; exact Blk.newAt _ _ _ _ (by simp))
          have HT10 := Lib.hid (HT9.out.tab.next hb10)
          have HB810 := Lib.hid (HB9.out.trans (hb10.mono HB9.out.size))
          have HBV10 := Lib.hid (HBV9.out.trans (hb10.mono HBV9.out.size))
          have HW10 := Lib.hid hW10
          have HSBE := Lib.hid hSB
          clear hW10 hSB hb10
          go_upto_region 14 with fail
          rw [← HW10.out, ← HSBE.out]
          go_upto_region 16 with fail
          have hqn : ∀ q ∈ Q, q.length ≤ 4000 := fun x hx => by
            have hil : I.length ≤ 17 := by
              apply Classical.byContradiction
              intro hn
              obtain ⟨i, hi⟩ := nth_of (show 17 < I.length by omega)
              obtain ⟨⟨_, h1, _⟩, _, h2, _⟩ := HALL.out 17 i hi
              omega
            rw [HQE.out] at hx
            obtain ⟨z, _, rfl⟩ := List.mem_map.1 hx
            have := List.length_filter_le (fun i : IncR => i.bt == (z : Int)) I
            omega
          have HQN := Lib.hid hqn
          clear hqn
          have HBX10 := Lib.hid (HBI.out.next (HB8.out.trans (HB810.out.mono HB8.out.size)))
          go_cut [20, 21] (fun v f wx => Below W10.heap.size W10 wx ∧ (Wn = 0 ∨ (0 < Wn ∧ f = .int .i64 0 ∧ ∃ Q2, GoodQ K rl lg Wd Q2 ∧ Rows2 wx W10.heap.size v Q2)))
          case first =>
            have j0 := HJ10.out.cell 0
            have j1 := HJ10.out.cell 1
            have j2 := HJ10.out.cell 2
            have j3 := HJ10.out.cell 3
            have j4 := HJ10.out.cell 4
            simp at j0 j1 j2 j3 j4
            have lj := HJ10.out.lt
            have hrep := refReplace_any QA QC Q b q y0 fi' la' Wd W10 (HQF.out.next HBV10.out) (by rw [HQL.out]; omega) HQN.out HQ.out
            rw [HQL.out] at hrep
            have HREP := Lib.hid hrep
            clear hrep
            go_wp2_with fail
            refine HREP.out.mono ?_
            rintro e W11 (⟨k, y, v, hk1, hk2, _, rfl, hr, hb⟩ | ⟨hno, rfl, hb⟩)
            · rcases HCAN.out with ⟨hc, _⟩ | ⟨_, hpos, _⟩
              · exfalso
                have h1 := (HQM.out y (List.mem_iff_getElem?.2 ⟨k, hk1⟩)).2.1
                have h2 : y.sq = y0 := hk2
                omega
              · have HGOOD := Lib.hid (good_rep (k := k) (s := y0) (bt := (b : Int)) (fi := fi') (la := la') HQ.out HLG.out HQL.out (show K ≤ 8 by omega) (show Wd ≤ 20000 by have := HWD.out; have := HWN.out; have := HD48.out; omega))
                have HR := Lib.hid hr
                have HB11 := Lib.hid hb
                have HPOS := Lib.hid hpos
                clear hk1 hk2 hr hb hpos
                go_wp2_with fail
                go_meet
                exact ⟨HB11.out, .inr ⟨HPOS.out, rfl, _, HGOOD.out, HR.out⟩⟩
            · rcases HCAN.out with ⟨_, _, _, _, hw0⟩ | ⟨hm, _⟩
              · have HW0 := Lib.hid hw0
                have HB11 := Lib.hid hb
                clear hw0 hno hb
                go_wp2_with fail
                go_meet
                exact ⟨HB11.out, .inl HW0.out⟩
              · exact (hno _ hm rfl).elim
          case rest =>
            obtain ⟨hb, hor⟩ := hcut
            have HB17 := Lib.hid hb
            have HOR := Lib.hid hor
            obtain ⟨W12, hW12⟩ : ∃ W, W = wc := ⟨_, rfl⟩
            subst hW12
            clear hb hor
            have BI := HBX10.out.next HB17.out
            have i4 := BI.cell 4
            simp at i4
            have li := BI.lt
            clear BI
            go_upto_if 91 with fail
            clear i4 li
            go_cut [20, 21] (fun v f wx => f = .int .i64 0 ∧ Below W10.heap.size W10 wx ∧ ∃ Q2, GoodQ K rl lg Wd Q2 ∧ Rows2 wx W10.heap.size v Q2)
            case first =>
              by_cases hw : (Wn : Int) = 0
              · have hc := HCAN.out
                have hlast : ∀ j, q.getLast? = some j → j.sq < y0 := fun j hj => by
                  have h1 := (HQM.out j (List.mem_of_getLast? hj)).2.1
                  rcases hc with ⟨h, _⟩ | ⟨_, h, _⟩ <;> omega
                have J := HJ10.out.next HB17.out
                have j0 := J.cell 0
                have j1 := J.cell 1
                have j2 := J.cell 2
                have j3 := J.cell 3
                have j4 := J.cell 4
                simp at j0 j1 j2 j3 j4
                have lj := J.lt
                have hadd := refAdd_any QA QC Q b q y0 fi' la' Wd W12 (HQF.out.next (HBV10.out.trans (HB17.out.mono HBV10.out.size))) (by rw [HQL.out]; omega) HQN.out HQ.out hlast
                rw [HQL.out] at hadd
                have HADD := Lib.hid hadd
                clear hc hlast hadd J
                go_wp2_with fail
                refine HADD.out.mono ?_
                rintro e W13 ⟨v, rfl, hr, hb⟩
                have HGOOD := Lib.hid (good_add (s := y0) (bt := (b : Int)) (fi := fi') (la := la') HQ.out HLG.out HQL.out (show K ≤ 8 by omega) (show Wd ≤ 20000 by have := HWD.out; have := HWN.out; have := HD48.out; omega))
                have HR := Lib.hid (Rows2.lower hr HB17.out.size)
                have HB13 := Lib.hid (HB17.out.trans (hb.mono HB17.out.size))
                clear hr hb
                go_wp2_with fail
                go_meet
                exact ⟨rfl, HB13.out, _, HGOOD.out, HR.out⟩
              · have hor := HOR.out
                rcases hor with h | ⟨_, rfl, hq2⟩
                · exact absurd (show (Wn : Int) = 0 by omega) hw
                have HQ2 := Lib.hid hq2
                clear hq2
                go_wp2_with fail
                go_meet
                exact ⟨rfl, HB17.out, HQ2.out⟩
            case rest =>
              obtain ⟨rfl, hb, hq2⟩ := hcut
              obtain ⟨Q2, hgd, hr⟩ := hq2
              obtain ⟨QA2, QC2, rfl, hqa2⟩ := hr.qarr
              rw [hgd.1]
              have HGD := Lib.hid hgd
              have HQ14 := Lib.hid (hqa2.mono fun x hx => hx.2)
              have HB14 := Lib.hid hb
              have HBV14 := Lib.hid (HBV10.out.trans (hb.mono HBV10.out.size))
              obtain ⟨W14, hW14⟩ : ∃ W, W = wc := ⟨_, rfl⟩
              subst hW14
              clear hb hgd hr hqa2 HOR HB17
              have hco := fun W (h : Below W14.drew.heap.size W14.drew W) => refComplete_any s A c R f W (HCF.out.1.next ((HBV14.out.drew).trans (h.mono HBV14.out.size))) HCF.out.2.1 (by have := HCF.out.2.2.1; omega)
              rw [← HRL.out, ← HCP.out] at hco
              have HCO := Lib.hid hco
              obtain ⟨u2, hu2⟩ : ∃ x, x = m - cntP (owB F' (-1)) m := ⟨_, rfl⟩
              have hu1 := fun W (h : Below W14.drew.heap.size W14.drew W) => refUsed_any K (.slice B mk d) (some ⟨gb, 0, none⟩) m d' F W (HTF.out.next ((HBV14.out.drew).trans (h.mono HBV14.out.size))) (by omega)
              rw [show m - cntP (owB F (-1)) m = us from HUS.out.symm] at hu1
              have HU1 := Lib.hid hu1
              have hx2 := fun W (h : Below W14.drew.heap.size W14.drew W) => refUsed_any K (.slice A1 mk c1) (some ⟨g, 0, none⟩) m c2 F' W (HT10.out.next ((HB14.out.drew).trans (h.mono HB14.out.size))) (by omega)
              rw [← hu2] at hx2
              have HU2 := Lib.hid hx2
              have HX2 := Lib.hid (show u2 = us + X by
                have h1 := HFREE.out
                have h2 := HFR.out
                have h3 := cntP_le (owB F' (-1)) m
                omega)
              clear hco hu1 hx2 hu2
              go_upto_region 21 with fail
              go_cut [117] (fun q wx => q = .bool false ∧ Below W14.heap.size W14 wx)
              case first =>
                have BC := HBC.out.next HBV14.out
                have BS := HBS.out.next HBV14.out
                have BX := HS10.out.next HB14.out
                have p0 : W14.drew.cell? ⟨CB, 0, none⟩ = some (.string s) := BC.cell 0
                have p1 : W14.drew.cell? ⟨CB, 1, none⟩ = some (.slice A rl c) := BC.cell 1
                have p2 : W14.drew.cell? ⟨CB, 2, none⟩ = some (.int .i64 f) := BC.cell 2
                have s0 : W14.drew.cell? ⟨CB + 1, 0, none⟩ = some (.int .i64 K) := BS.cell 0
                have s1 : W14.drew.cell? ⟨CB + 1, 1, none⟩ = some (.slice B mk d) := BS.cell 1
                have s2 : W14.drew.cell? ⟨CB + 1, 2, none⟩ = some (.slice (some ⟨gb, 0, none⟩) m d') := BS.cell 2
                have x0 : W14.drew.cell? ⟨SB, 0, none⟩ = some (.int .i64 K) := BX.cell 0
                have x1 : W14.drew.cell? ⟨SB, 1, none⟩ = some (.slice A1 mk c1) := BX.cell 1
                have x2 : W14.drew.cell? ⟨SB, 2, none⟩ = some (.slice (some ⟨g, 0, none⟩) m c2) := BX.cell 2
                have lc : CB < W14.drew.heap.size := BC.lt
                have ls : CB + 1 < W14.drew.heap.size := BS.lt
                have lx : SB < W14.drew.heap.size := BX.lt
                have hc : Below W14.drew.heap.size W14.drew W14.drew := Below.refl _ _
                clear BC BS BX
                cases cp with
                | false =>
                  refine wp_region_held_drew (S := (fun w' => w'.cell? ⟨CB, 0, none⟩ = some (.string s) ∧ w'.cell? ⟨CB, 1, none⟩ = some (.slice A rl c) ∧ w'.cell? ⟨CB, 2, none⟩ = some (.int .i64 f) ∧ w'.cell? ⟨CB + 1, 0, none⟩ = some (.int .i64 K) ∧ w'.cell? ⟨CB + 1, 1, none⟩ = some (.slice B mk d) ∧ w'.cell? ⟨CB + 1, 2, none⟩ = some (.slice (some ⟨gb, 0, none⟩) m d') ∧ w'.cell? ⟨SB, 0, none⟩ = some (.int .i64 K) ∧ w'.cell? ⟨SB, 1, none⟩ = some (.slice A1 mk c1) ∧ w'.cell? ⟨SB, 2, none⟩ = some (.slice (some ⟨g, 0, none⟩) m c2))) (by kernel_rfl) ?_ (fun hHeld => ?_)
                  · exact ⟨p0, p1, p2, s0, s1, s2, x0, x1, x2⟩
                  (refine wpAnyH_take (i := 0) (v := ?_) rfl (by kernel_rfl) (by kernel_rfl) (by kernel_rfl) (fun _ _ _ h => h) (Or.inl ⟨by rfl, ?_⟩) (by assumption) ?_; rotate_left 1; (focus (intro w' hSw; (try dsimp only at hSw); go_simp; (try with_reducible rfl); done)); try simp only [Act.put, List.setIfInBounds_toArray, List.set_cons_zero, List.set_cons_succ, List.getElem_toArray, List.getElem_cons_zero])
                  refine wpAnyH_ready (rs := [1]) (by kernel_rfl) (by simp) ?_
                  refine AllReadyH.cons rfl (fun K hK => ?_) AllReadyH.nil
                  go_simp
                  go_at_call 21
                  refine (HCO.out _ hc).mono ?_
                  rintro e N1 ⟨rfl, hb⟩
                  replace hc := hc.trans (hb.mono hc.size)
                  clear hb
                  go_wp2_with fail
                  refine hK.out _ _ ⟨(hc.cell (p := ⟨CB, 0, none⟩) lc).trans p0, (hc.cell (p := ⟨CB, 1, none⟩) lc).trans p1, (hc.cell (p := ⟨CB, 2, none⟩) lc).trans p2, (hc.cell (p := ⟨CB + 1, 0, none⟩) ls).trans s0, (hc.cell (p := ⟨CB + 1, 1, none⟩) ls).trans s1, (hc.cell (p := ⟨CB + 1, 2, none⟩) ls).trans s2, (hc.cell (p := ⟨SB, 0, none⟩) lx).trans x0, (hc.cell (p := ⟨SB, 1, none⟩) lx).trans x1, (hc.cell (p := ⟨SB, 2, none⟩) lx).trans x2⟩ (fun hHeld2 => ?_)
                  clear hK K hHeld
                  have hHeld := hHeld2
                  clear hHeld2
                  try simp only [Act.put, List.setIfInBounds_toArray, List.set_cons_zero, List.set_cons_succ, List.getElem_toArray, List.getElem_cons_zero, List.getElem_cons_succ]
                  (refine wpAnyH_take (i := 2) (v := ?_) rfl (by kernel_rfl) (by kernel_rfl) (by kernel_rfl) (fun _ _ _ h => h) (Or.inl ⟨by rfl, ?_⟩) (by assumption) ?_; rotate_left 1; (focus (intro w' hSw; (try dsimp only at hSw); go_simp; (try with_reducible rfl); done)); try simp only [Act.put, List.setIfInBounds_toArray, List.set_cons_zero, List.set_cons_succ, List.getElem_toArray, List.getElem_cons_zero, List.getElem_cons_succ])
                  (refine wpAnyH_take (i := 3) (v := undef) rfl (by kernel_rfl) (by kernel_rfl) (by kernel_rfl) (fun _ _ _ h => h) (Or.inr ⟨by rfl, rfl⟩) (by assumption) ?_; try simp only [Act.put, List.setIfInBounds_toArray, List.set_cons_zero, List.set_cons_succ, List.getElem_toArray, List.getElem_cons_zero, List.getElem_cons_succ])
                  (refine wpAnyH_take (i := 4) (v := undef) rfl (by kernel_rfl) (by kernel_rfl) (by kernel_rfl) (fun _ _ _ h => h) (Or.inr ⟨by rfl, rfl⟩) (by assumption) ?_; try simp only [Act.put, List.setIfInBounds_toArray, List.set_cons_zero, List.set_cons_succ, List.getElem_toArray, List.getElem_cons_zero, List.getElem_cons_succ])
                  (refine wpAnyH_take (i := 5) (v := undef) rfl (by kernel_rfl) (by kernel_rfl) (by kernel_rfl) (fun _ _ _ h => h) (Or.inr ⟨by rfl, rfl⟩) (by assumption) ?_; try simp only [Act.put, List.setIfInBounds_toArray, List.set_cons_zero, List.set_cons_succ, List.getElem_toArray, List.getElem_cons_zero, List.getElem_cons_succ])
                  (refine wpAnyH_take (i := 6) (v := undef) rfl (by kernel_rfl) (by kernel_rfl) (by kernel_rfl) (fun _ _ _ h => h) (Or.inr ⟨by rfl, rfl⟩) (by assumption) ?_; try simp only [Act.put, List.setIfInBounds_toArray, List.set_cons_zero, List.set_cons_succ, List.getElem_toArray, List.getElem_cons_zero, List.getElem_cons_succ])
                  (refine wpAnyH_take (i := 7) (v := undef) rfl (by kernel_rfl) (by kernel_rfl) (by kernel_rfl) (fun _ _ _ h => h) (Or.inr ⟨by rfl, rfl⟩) (by assumption) ?_; try simp only [Act.put, List.setIfInBounds_toArray, List.set_cons_zero, List.set_cons_succ, List.getElem_toArray, List.getElem_cons_zero, List.getElem_cons_succ])
                  (refine wpAnyH_take (i := 8) (v := ?_) rfl (by kernel_rfl) (by kernel_rfl) (by kernel_rfl) (fun _ _ _ h => h) (Or.inl ⟨by rfl, ?_⟩) (by assumption) ?_; rotate_left 1; (focus (intro w' hSw; (try dsimp only at hSw); go_simp; (try with_reducible rfl); done)); try simp only [Act.put, List.setIfInBounds_toArray, List.set_cons_zero, List.set_cons_succ, List.getElem_toArray, List.getElem_cons_zero, List.getElem_cons_succ])
                  (refine wpAnyH_take (i := 9) (v := ?_) rfl (by kernel_rfl) (by kernel_rfl) (by kernel_rfl) (fun _ _ _ h => h) (Or.inl ⟨by rfl, ?_⟩) (by assumption) ?_; rotate_left 1; (focus (intro w' hSw; (try dsimp only at hSw); go_simp; (try with_reducible rfl); done)); try simp only [Act.put, List.setIfInBounds_toArray, List.set_cons_zero, List.set_cons_succ, List.getElem_toArray, List.getElem_cons_zero, List.getElem_cons_succ])
                  (refine wpAnyH_take (i := 10) (v := undef) rfl (by kernel_rfl) (by kernel_rfl) (by kernel_rfl) (fun _ _ _ h => h) (Or.inr ⟨by rfl, rfl⟩) (by assumption) ?_; try simp only [Act.put, List.setIfInBounds_toArray, List.set_cons_zero, List.set_cons_succ, List.getElem_toArray, List.getElem_cons_zero, List.getElem_cons_succ])
                  (refine wpAnyH_take (i := 11) (v := undef) rfl (by kernel_rfl) (by kernel_rfl) (by kernel_rfl) (fun _ _ _ h => h) (Or.inr ⟨by rfl, rfl⟩) (by assumption) ?_; try simp only [Act.put, List.setIfInBounds_toArray, List.set_cons_zero, List.set_cons_succ, List.getElem_toArray, List.getElem_cons_zero, List.getElem_cons_succ])
                  (refine wpAnyH_take (i := 12) (v := undef) rfl (by kernel_rfl) (by kernel_rfl) (by kernel_rfl) (fun _ _ _ h => h) (Or.inr ⟨by rfl, rfl⟩) (by assumption) ?_; try simp only [Act.put, List.setIfInBounds_toArray, List.set_cons_zero, List.set_cons_succ, List.getElem_toArray, List.getElem_cons_zero, List.getElem_cons_succ])
                  (refine wpAnyH_take (i := 13) (v := undef) rfl (by kernel_rfl) (by kernel_rfl) (by kernel_rfl) (fun _ _ _ h => h) (Or.inr ⟨by rfl, rfl⟩) (by assumption) ?_; try simp only [Act.put, List.setIfInBounds_toArray, List.set_cons_zero, List.set_cons_succ, List.getElem_toArray, List.getElem_cons_zero, List.getElem_cons_succ])
                  (refine wpAnyH_take (i := 14) (v := undef) rfl (by kernel_rfl) (by kernel_rfl) (by kernel_rfl) (fun _ _ _ h => h) (Or.inr ⟨by rfl, rfl⟩) (by assumption) ?_; try simp only [Act.put, List.setIfInBounds_toArray, List.set_cons_zero, List.set_cons_succ, List.getElem_toArray, List.getElem_cons_zero, List.getElem_cons_succ])
                  (refine wpAnyH_take (i := 15) (v := undef) rfl (by kernel_rfl) (by kernel_rfl) (by kernel_rfl) (fun _ _ _ h => h) (Or.inr ⟨by rfl, rfl⟩) (by assumption) ?_; try simp only [Act.put, List.setIfInBounds_toArray, List.set_cons_zero, List.set_cons_succ, List.getElem_toArray, List.getElem_cons_zero, List.getElem_cons_succ])
                  (refine wpAnyH_take (i := 16) (v := undef) rfl (by kernel_rfl) (by kernel_rfl) (by kernel_rfl) (fun _ _ _ h => h) (Or.inr ⟨by rfl, rfl⟩) (by assumption) ?_; try simp only [Act.put, List.setIfInBounds_toArray, List.set_cons_zero, List.set_cons_succ, List.getElem_toArray, List.getElem_cons_zero, List.getElem_cons_succ])
                  (refine wpAnyH_take (i := 17) (v := ?_) rfl (by kernel_rfl) (by kernel_rfl) (by kernel_rfl) (fun _ _ _ h => h) (Or.inl ⟨by rfl, ?_⟩) (by assumption) ?_; rotate_left 1; (focus (intro w' hSw; (try dsimp only at hSw); go_simp; (try with_reducible rfl); done)); try simp only [Act.put, List.setIfInBounds_toArray, List.set_cons_zero, List.set_cons_succ, List.getElem_toArray, List.getElem_cons_zero, List.getElem_cons_succ])
                  refine wpAnyH_done (by kernel_rfl) ?_ _
                  clear hHeld
                  go_wp2
                  go_meet
                  exact ⟨rfl, below_next (Below.refl _ _).drew (Nat.le_refl _) hc⟩
                | true =>
                  by_cases hx : X = 0
                  · have hu3 := HU2.out
                    rw [show u2 = us by have := HX2.out; omega] at hu3
                    have HU3 := Lib.hid hu3
                    clear hu3
                    have hv : decide ((us : Int) < (us : Int)) = false := by simp
                    refine wp_region_held_drew (S := (fun w' => w'.cell? ⟨CB, 0, none⟩ = some (.string s) ∧ w'.cell? ⟨CB, 1, none⟩ = some (.slice A rl c) ∧ w'.cell? ⟨CB, 2, none⟩ = some (.int .i64 f) ∧ w'.cell? ⟨CB + 1, 0, none⟩ = some (.int .i64 K) ∧ w'.cell? ⟨CB + 1, 1, none⟩ = some (.slice B mk d) ∧ w'.cell? ⟨CB + 1, 2, none⟩ = some (.slice (some ⟨gb, 0, none⟩) m d') ∧ w'.cell? ⟨SB, 0, none⟩ = some (.int .i64 K) ∧ w'.cell? ⟨SB, 1, none⟩ = some (.slice A1 mk c1) ∧ w'.cell? ⟨SB, 2, none⟩ = some (.slice (some ⟨g, 0, none⟩) m c2))) (by kernel_rfl) ?_ (fun hHeld => ?_)
                    · exact ⟨p0, p1, p2, s0, s1, s2, x0, x1, x2⟩
                    (refine wpAnyH_take (i := 0) (v := ?_) rfl (by kernel_rfl) (by kernel_rfl) (by kernel_rfl) (fun _ _ _ h => h) (Or.inl ⟨by rfl, ?_⟩) (by assumption) ?_; rotate_left 1; (focus (intro w' hSw; (try dsimp only at hSw); go_simp; (try with_reducible rfl); done)); try simp only [Act.put, List.setIfInBounds_toArray, List.set_cons_zero, List.set_cons_succ, List.getElem_toArray, List.getElem_cons_zero])
                    refine wpAnyH_ready (rs := [1]) (by kernel_rfl) (by simp) ?_
                    refine AllReadyH.cons rfl (fun K hK => ?_) AllReadyH.nil
                    go_simp
                    go_at_call 21
                    refine (HCO.out _ hc).mono ?_
                    rintro e N2 ⟨rfl, hb⟩
                    replace hc := hc.trans (hb.mono hc.size)
                    clear hb
                    go_wp2_with fail
                    refine hK.out _ _ ⟨(hc.cell (p := ⟨CB, 0, none⟩) lc).trans p0, (hc.cell (p := ⟨CB, 1, none⟩) lc).trans p1, (hc.cell (p := ⟨CB, 2, none⟩) lc).trans p2, (hc.cell (p := ⟨CB + 1, 0, none⟩) ls).trans s0, (hc.cell (p := ⟨CB + 1, 1, none⟩) ls).trans s1, (hc.cell (p := ⟨CB + 1, 2, none⟩) ls).trans s2, (hc.cell (p := ⟨SB, 0, none⟩) lx).trans x0, (hc.cell (p := ⟨SB, 1, none⟩) lx).trans x1, (hc.cell (p := ⟨SB, 2, none⟩) lx).trans x2⟩ (fun hHeld2 => ?_)
                    clear hK K hHeld
                    have hHeld := hHeld2
                    clear hHeld2
                    try simp only [Act.put, List.setIfInBounds_toArray, List.set_cons_zero, List.set_cons_succ, List.getElem_toArray, List.getElem_cons_zero, List.getElem_cons_succ]
                    (refine wpAnyH_take (i := 2) (v := ?_) rfl (by kernel_rfl) (by kernel_rfl) (by kernel_rfl) (fun _ _ _ h => h) (Or.inl ⟨by rfl, ?_⟩) (by assumption) ?_; rotate_left 1; (focus (intro w' hSw; (try dsimp only at hSw); go_simp; (try with_reducible rfl); done)); try simp only [Act.put, List.setIfInBounds_toArray, List.set_cons_zero, List.set_cons_succ, List.getElem_toArray, List.getElem_cons_zero, List.getElem_cons_succ])
                    (refine wpAnyH_take (i := 3) (v := ?_) rfl (by kernel_rfl) (by kernel_rfl) (by kernel_rfl) (fun _ _ _ h => h) (Or.inl ⟨by rfl, ?_⟩) (by assumption) ?_; rotate_left 1; (focus (intro w' hSw; (try dsimp only at hSw); go_simp; (try with_reducible rfl); done)); try simp only [Act.put, List.setIfInBounds_toArray, List.set_cons_zero, List.set_cons_succ, List.getElem_toArray, List.getElem_cons_zero, List.getElem_cons_succ])
                    (refine wpAnyH_take (i := 5) (v := ?_) rfl (by kernel_rfl) (by kernel_rfl) (by kernel_rfl) (fun _ _ _ h => h) (Or.inl ⟨by rfl, ?_⟩) (by assumption) ?_; rotate_left 1; (focus (intro w' hSw; (try dsimp only at hSw); go_simp; (try with_reducible rfl); done)); try simp only [Act.put, List.setIfInBounds_toArray, List.set_cons_zero, List.set_cons_succ, List.getElem_toArray, List.getElem_cons_zero, List.getElem_cons_succ])
                    refine wpAnyH_ready (rs := [4]) (by kernel_rfl) (by simp) ?_
                    refine AllReadyH.cons rfl (fun K hK => ?_) AllReadyH.nil
                    go_simp
                    go_at_call 22
                    refine (HU3.out _ hc).mono ?_
                    rintro e N3 ⟨rfl, hb⟩
                    replace hc := hc.trans (hb.mono hc.size)
                    clear hb
                    go_wp2_with fail
                    refine hK.out _ _ ⟨(hc.cell (p := ⟨CB, 0, none⟩) lc).trans p0, (hc.cell (p := ⟨CB, 1, none⟩) lc).trans p1, (hc.cell (p := ⟨CB, 2, none⟩) lc).trans p2, (hc.cell (p := ⟨CB + 1, 0, none⟩) ls).trans s0, (hc.cell (p := ⟨CB + 1, 1, none⟩) ls).trans s1, (hc.cell (p := ⟨CB + 1, 2, none⟩) ls).trans s2, (hc.cell (p := ⟨SB, 0, none⟩) lx).trans x0, (hc.cell (p := ⟨SB, 1, none⟩) lx).trans x1, (hc.cell (p := ⟨SB, 2, none⟩) lx).trans x2⟩ (fun hHeld2 => ?_)
                    clear hK K hHeld
                    have hHeld := hHeld2
                    clear hHeld2
                    try simp only [Act.put, List.setIfInBounds_toArray, List.set_cons_zero, List.set_cons_succ, List.getElem_toArray, List.getElem_cons_zero, List.getElem_cons_succ]
                    refine wpAnyH_ready (rs := [6]) (by kernel_rfl) (by simp) ?_
                    refine AllReadyH.cons rfl (fun K hK => ?_) AllReadyH.nil
                    go_simp
                    go_at_call 22
                    refine (HU1.out _ hc).mono ?_
                    rintro e N4 ⟨rfl, hb⟩
                    replace hc := hc.trans (hb.mono hc.size)
                    clear hb
                    go_wp2_with fail
                    refine hK.out _ _ ⟨(hc.cell (p := ⟨CB, 0, none⟩) lc).trans p0, (hc.cell (p := ⟨CB, 1, none⟩) lc).trans p1, (hc.cell (p := ⟨CB, 2, none⟩) lc).trans p2, (hc.cell (p := ⟨CB + 1, 0, none⟩) ls).trans s0, (hc.cell (p := ⟨CB + 1, 1, none⟩) ls).trans s1, (hc.cell (p := ⟨CB + 1, 2, none⟩) ls).trans s2, (hc.cell (p := ⟨SB, 0, none⟩) lx).trans x0, (hc.cell (p := ⟨SB, 1, none⟩) lx).trans x1, (hc.cell (p := ⟨SB, 2, none⟩) lx).trans x2⟩ (fun hHeld2 => ?_)
                    clear hK K hHeld
                    have hHeld := hHeld2
                    clear hHeld2
                    try simp only [Act.put, List.setIfInBounds_toArray, List.set_cons_zero, List.set_cons_succ, List.getElem_toArray, List.getElem_cons_zero, List.getElem_cons_succ]
                    (refine wpAnyH_take (i := 7) (v := ?_) rfl (by kernel_rfl) (by kernel_rfl) (by kernel_rfl) (fun _ _ _ h => h) (Or.inl ⟨by rfl, ?_⟩) (by assumption) ?_; rotate_left 1; (focus (intro w' hSw; (try dsimp only at hSw); go_simp; (try with_reducible rfl); done)); try simp only [Act.put, List.setIfInBounds_toArray, List.set_cons_zero, List.set_cons_succ, List.getElem_toArray, List.getElem_cons_zero, List.getElem_cons_succ])
                    (refine wpAnyH_take (i := 8) (v := ?_) rfl (by kernel_rfl) (by kernel_rfl) (by kernel_rfl) (fun _ _ _ h => h) (Or.inl ⟨by rfl, ?_⟩) (by assumption) ?_; rotate_left 1; (focus (intro w' hSw; (try dsimp only at hSw); go_simp; (try with_reducible rfl); done)); try simp only [Act.put, List.setIfInBounds_toArray, List.set_cons_zero, List.set_cons_succ, List.getElem_toArray, List.getElem_cons_zero, List.getElem_cons_succ])
                    (refine wpAnyH_take (i := 9) (v := ?_) rfl (by kernel_rfl) (by kernel_rfl) (by kernel_rfl) (fun _ _ _ h => h) (Or.inl ⟨by rfl, ?_⟩) (by assumption) ?_; rotate_left 1; (focus (intro w' hSw; (try dsimp only at hSw); go_simp; (try with_reducible rfl); done)); try simp only [Act.put, List.setIfInBounds_toArray, List.set_cons_zero, List.set_cons_succ, List.getElem_toArray, List.getElem_cons_zero, List.getElem_cons_succ])
                    (refine wpAnyH_take (i := 10) (v := undef) rfl (by kernel_rfl) (by kernel_rfl) (by kernel_rfl) (fun _ _ _ h => h) (Or.inr ⟨by rfl, rfl⟩) (by assumption) ?_; try simp only [Act.put, List.setIfInBounds_toArray, List.set_cons_zero, List.set_cons_succ, List.getElem_toArray, List.getElem_cons_zero, List.getElem_cons_succ])
                    (refine wpAnyH_take (i := 11) (v := undef) rfl (by kernel_rfl) (by kernel_rfl) (by kernel_rfl) (fun _ _ _ h => h) (Or.inr ⟨by rfl, rfl⟩) (by assumption) ?_; try simp only [Act.put, List.setIfInBounds_toArray, List.set_cons_zero, List.set_cons_succ, List.getElem_toArray, List.getElem_cons_zero, List.getElem_cons_succ])
                    (refine wpAnyH_take (i := 12) (v := undef) rfl (by kernel_rfl) (by kernel_rfl) (by kernel_rfl) (fun _ _ _ h => h) (Or.inr ⟨by rfl, rfl⟩) (by assumption) ?_; try simp only [Act.put, List.setIfInBounds_toArray, List.set_cons_zero, List.set_cons_succ, List.getElem_toArray, List.getElem_cons_zero, List.getElem_cons_succ])
                    (refine wpAnyH_take (i := 13) (v := undef) rfl (by kernel_rfl) (by kernel_rfl) (by kernel_rfl) (fun _ _ _ h => h) (Or.inr ⟨by rfl, rfl⟩) (by assumption) ?_; try simp only [Act.put, List.setIfInBounds_toArray, List.set_cons_zero, List.set_cons_succ, List.getElem_toArray, List.getElem_cons_zero, List.getElem_cons_succ])
                    (refine wpAnyH_take (i := 14) (v := undef) rfl (by kernel_rfl) (by kernel_rfl) (by kernel_rfl) (fun _ _ _ h => h) (Or.inr ⟨by rfl, rfl⟩) (by assumption) ?_; try simp only [Act.put, List.setIfInBounds_toArray, List.set_cons_zero, List.set_cons_succ, List.getElem_toArray, List.getElem_cons_zero, List.getElem_cons_succ])
                    (refine wpAnyH_take (i := 15) (v := undef) rfl (by kernel_rfl) (by kernel_rfl) (by kernel_rfl) (fun _ _ _ h => h) (Or.inr ⟨by rfl, rfl⟩) (by assumption) ?_; try simp only [Act.put, List.setIfInBounds_toArray, List.set_cons_zero, List.set_cons_succ, List.getElem_toArray, List.getElem_cons_zero, List.getElem_cons_succ])
                    (refine wpAnyH_take (i := 16) (v := undef) rfl (by kernel_rfl) (by kernel_rfl) (by kernel_rfl) (fun _ _ _ h => h) (Or.inr ⟨by rfl, rfl⟩) (by assumption) ?_; try simp only [Act.put, List.setIfInBounds_toArray, List.set_cons_zero, List.set_cons_succ, List.getElem_toArray, List.getElem_cons_zero, List.getElem_cons_succ])
                    (refine wpAnyH_take (i := 17) (v := ?_) rfl (by kernel_rfl) (by kernel_rfl) (by kernel_rfl) (fun _ _ _ h => h) (Or.inl ⟨by rfl, ?_⟩) (by assumption) ?_; rotate_left 1; (focus (intro w' hSw; (try dsimp only at hSw); go_simp; (try with_reducible rfl); done)); try simp only [Act.put, List.setIfInBounds_toArray, List.set_cons_zero, List.set_cons_succ, List.getElem_toArray, List.getElem_cons_zero, List.getElem_cons_succ])
                    refine wpAnyH_done (by kernel_rfl) ?_ _
                    clear hHeld
                    go_wp2
                    go_meet
                    exact ⟨rfl, below_next (Below.refl _ _).drew (Nat.le_refl _) hc⟩
                  · have hv : decide ((us : Int) < (u2 : Int)) = true := decide_eq_true (by have := HX2.out; omega)
                    have hvn : decide (us < u2) = true := decide_eq_true (by have := HX2.out; omega)
                    have h2 : 2 * u2 ≤ m := by
                      have h1 := keeps_half HGR.out.symm hx
                      rw [HX2.out]
                      exact h1
                    have hw2 : IntKind.i64.wrap (2 * (u2 : Int)) = 2 * (u2 : Int) := IntWalk.i64_in _ (by omega)
                    have hv2 : decide ((m : Int) < 2 * (u2 : Int)) = false := decide_eq_false (by omega)
                    clear h2
                    refine wp_region_held_drew (S := (fun w' => w'.cell? ⟨CB, 0, none⟩ = some (.string s) ∧ w'.cell? ⟨CB, 1, none⟩ = some (.slice A rl c) ∧ w'.cell? ⟨CB, 2, none⟩ = some (.int .i64 f) ∧ w'.cell? ⟨CB + 1, 0, none⟩ = some (.int .i64 K) ∧ w'.cell? ⟨CB + 1, 1, none⟩ = some (.slice B mk d) ∧ w'.cell? ⟨CB + 1, 2, none⟩ = some (.slice (some ⟨gb, 0, none⟩) m d') ∧ w'.cell? ⟨SB, 0, none⟩ = some (.int .i64 K) ∧ w'.cell? ⟨SB, 1, none⟩ = some (.slice A1 mk c1) ∧ w'.cell? ⟨SB, 2, none⟩ = some (.slice (some ⟨g, 0, none⟩) m c2))) (by kernel_rfl) ?_ (fun hHeld => ?_)
                    · exact ⟨p0, p1, p2, s0, s1, s2, x0, x1, x2⟩
                    (refine wpAnyH_take (i := 0) (v := ?_) rfl (by kernel_rfl) (by kernel_rfl) (by kernel_rfl) (fun _ _ _ h => h) (Or.inl ⟨by rfl, ?_⟩) (by assumption) ?_; rotate_left 1; (focus (intro w' hSw; (try dsimp only at hSw); go_simp; (try with_reducible rfl); done)); try simp only [Act.put, List.setIfInBounds_toArray, List.set_cons_zero, List.set_cons_succ, List.getElem_toArray, List.getElem_cons_zero])
                    refine wpAnyH_ready (rs := [1]) (by kernel_rfl) (by simp) ?_
                    refine AllReadyH.cons rfl (fun K hK => ?_) AllReadyH.nil
                    go_simp
                    go_at_call 21
                    refine (HCO.out _ hc).mono ?_
                    rintro e N5 ⟨rfl, hb⟩
                    replace hc := hc.trans (hb.mono hc.size)
                    clear hb
                    go_wp2_with fail
                    refine hK.out _ _ ⟨(hc.cell (p := ⟨CB, 0, none⟩) lc).trans p0, (hc.cell (p := ⟨CB, 1, none⟩) lc).trans p1, (hc.cell (p := ⟨CB, 2, none⟩) lc).trans p2, (hc.cell (p := ⟨CB + 1, 0, none⟩) ls).trans s0, (hc.cell (p := ⟨CB + 1, 1, none⟩) ls).trans s1, (hc.cell (p := ⟨CB + 1, 2, none⟩) ls).trans s2, (hc.cell (p := ⟨SB, 0, none⟩) lx).trans x0, (hc.cell (p := ⟨SB, 1, none⟩) lx).trans x1, (hc.cell (p := ⟨SB, 2, none⟩) lx).trans x2⟩ (fun hHeld2 => ?_)
                    clear hK K hHeld
                    have hHeld := hHeld2
                    clear hHeld2
                    try simp only [Act.put, List.setIfInBounds_toArray, List.set_cons_zero, List.set_cons_succ, List.getElem_toArray, List.getElem_cons_zero, List.getElem_cons_succ]
                    (refine wpAnyH_take (i := 2) (v := ?_) rfl (by kernel_rfl) (by kernel_rfl) (by kernel_rfl) (fun _ _ _ h => h) (Or.inl ⟨by rfl, ?_⟩) (by assumption) ?_; rotate_left 1; (focus (intro w' hSw; (try dsimp only at hSw); go_simp; (try with_reducible rfl); done)); try simp only [Act.put, List.setIfInBounds_toArray, List.set_cons_zero, List.set_cons_succ, List.getElem_toArray, List.getElem_cons_zero, List.getElem_cons_succ])
                    (refine wpAnyH_take (i := 3) (v := ?_) rfl (by kernel_rfl) (by kernel_rfl) (by kernel_rfl) (fun _ _ _ h => h) (Or.inl ⟨by rfl, ?_⟩) (by assumption) ?_; rotate_left 1; (focus (intro w' hSw; (try dsimp only at hSw); go_simp; (try with_reducible rfl); done)); try simp only [Act.put, List.setIfInBounds_toArray, List.set_cons_zero, List.set_cons_succ, List.getElem_toArray, List.getElem_cons_zero, List.getElem_cons_succ])
                    (refine wpAnyH_take (i := 5) (v := ?_) rfl (by kernel_rfl) (by kernel_rfl) (by kernel_rfl) (fun _ _ _ h => h) (Or.inl ⟨by rfl, ?_⟩) (by assumption) ?_; rotate_left 1; (focus (intro w' hSw; (try dsimp only at hSw); go_simp; (try with_reducible rfl); done)); try simp only [Act.put, List.setIfInBounds_toArray, List.set_cons_zero, List.set_cons_succ, List.getElem_toArray, List.getElem_cons_zero, List.getElem_cons_succ])
                    refine wpAnyH_ready (rs := [4]) (by kernel_rfl) (by simp) ?_
                    refine AllReadyH.cons rfl (fun K hK => ?_) AllReadyH.nil
                    go_simp
                    go_at_call 22
                    refine (HU2.out _ hc).mono ?_
                    rintro e N6 ⟨rfl, hb⟩
                    replace hc := hc.trans (hb.mono hc.size)
                    clear hb
                    go_wp2_with fail
                    refine hK.out _ _ ⟨(hc.cell (p := ⟨CB, 0, none⟩) lc).trans p0, (hc.cell (p := ⟨CB, 1, none⟩) lc).trans p1, (hc.cell (p := ⟨CB, 2, none⟩) lc).trans p2, (hc.cell (p := ⟨CB + 1, 0, none⟩) ls).trans s0, (hc.cell (p := ⟨CB + 1, 1, none⟩) ls).trans s1, (hc.cell (p := ⟨CB + 1, 2, none⟩) ls).trans s2, (hc.cell (p := ⟨SB, 0, none⟩) lx).trans x0, (hc.cell (p := ⟨SB, 1, none⟩) lx).trans x1, (hc.cell (p := ⟨SB, 2, none⟩) lx).trans x2⟩ (fun hHeld2 => ?_)
                    clear hK K hHeld
                    have hHeld := hHeld2
                    clear hHeld2
                    try simp only [Act.put, List.setIfInBounds_toArray, List.set_cons_zero, List.set_cons_succ, List.getElem_toArray, List.getElem_cons_zero, List.getElem_cons_succ]
                    refine wpAnyH_ready (rs := [6]) (by kernel_rfl) (by simp) ?_
                    refine AllReadyH.cons rfl (fun K hK => ?_) AllReadyH.nil
                    go_simp
                    go_at_call 22
                    refine (HU1.out _ hc).mono ?_
                    rintro e N7 ⟨rfl, hb⟩
                    replace hc := hc.trans (hb.mono hc.size)
                    clear hb
                    go_wp2_with fail
                    refine hK.out _ _ ⟨(hc.cell (p := ⟨CB, 0, none⟩) lc).trans p0, (hc.cell (p := ⟨CB, 1, none⟩) lc).trans p1, (hc.cell (p := ⟨CB, 2, none⟩) lc).trans p2, (hc.cell (p := ⟨CB + 1, 0, none⟩) ls).trans s0, (hc.cell (p := ⟨CB + 1, 1, none⟩) ls).trans s1, (hc.cell (p := ⟨CB + 1, 2, none⟩) ls).trans s2, (hc.cell (p := ⟨SB, 0, none⟩) lx).trans x0, (hc.cell (p := ⟨SB, 1, none⟩) lx).trans x1, (hc.cell (p := ⟨SB, 2, none⟩) lx).trans x2⟩ (fun hHeld2 => ?_)
                    clear hK K hHeld
                    have hHeld := hHeld2
                    clear hHeld2
                    try simp only [Act.put, List.setIfInBounds_toArray, List.set_cons_zero, List.set_cons_succ, List.getElem_toArray, List.getElem_cons_zero, List.getElem_cons_succ]
                    (refine wpAnyH_take (i := 7) (v := ?_) rfl (by kernel_rfl) (by kernel_rfl) (by kernel_rfl) (fun _ _ _ h => h) (Or.inl ⟨by rfl, ?_⟩) (by assumption) ?_; rotate_left 1; (focus (intro w' hSw; (try dsimp only at hSw); go_simp; (try with_reducible rfl); done)); try simp only [Act.put, List.setIfInBounds_toArray, List.set_cons_zero, List.set_cons_succ, List.getElem_toArray, List.getElem_cons_zero, List.getElem_cons_succ])
                    (refine wpAnyH_take (i := 8) (v := ?_) rfl (by kernel_rfl) (by kernel_rfl) (by kernel_rfl) (fun _ _ _ h => h) (Or.inl ⟨by rfl, ?_⟩) (by assumption) ?_; rotate_left 1; (focus (intro w' hSw; (try dsimp only at hSw); go_simp; (try with_reducible rfl); done)); try simp only [Act.put, List.setIfInBounds_toArray, List.set_cons_zero, List.set_cons_succ, List.getElem_toArray, List.getElem_cons_zero, List.getElem_cons_succ])
                    (refine wpAnyH_take (i := 9) (v := ?_) rfl (by kernel_rfl) (by kernel_rfl) (by kernel_rfl) (fun _ _ _ h => h) (Or.inl ⟨by rfl, ?_⟩) (by assumption) ?_; rotate_left 1; (focus (intro w' hSw; (try dsimp only at hSw); go_simp; (try with_reducible rfl); done)); try simp only [Act.put, List.setIfInBounds_toArray, List.set_cons_zero, List.set_cons_succ, List.getElem_toArray, List.getElem_cons_zero, List.getElem_cons_succ])
                    (refine wpAnyH_take (i := 10) (v := ?_) rfl (by kernel_rfl) (by kernel_rfl) (by kernel_rfl) (fun _ _ _ h => h) (Or.inl ⟨by rfl, ?_⟩) (by assumption) ?_; rotate_left 1; (focus (intro w' hSw; (try dsimp only at hSw); go_simp; (try with_reducible rfl); done)); try simp only [Act.put, List.setIfInBounds_toArray, List.set_cons_zero, List.set_cons_succ, List.getElem_toArray, List.getElem_cons_zero, List.getElem_cons_succ])
                    (refine wpAnyH_take (i := 13) (v := ?_) rfl (by kernel_rfl) (by kernel_rfl) (by kernel_rfl) (fun _ _ _ h => h) (Or.inl ⟨by rfl, ?_⟩) (by assumption) ?_; rotate_left 1; (focus (intro w' hSw; (try dsimp only at hSw); go_simp; (try with_reducible rfl); done)); try simp only [Act.put, List.setIfInBounds_toArray, List.set_cons_zero, List.set_cons_succ, List.getElem_toArray, List.getElem_cons_zero, List.getElem_cons_succ])
                    (refine wpAnyH_take (i := 14) (v := ?_) rfl (by kernel_rfl) (by kernel_rfl) (by kernel_rfl) (fun _ _ _ h => h) (Or.inl ⟨by rfl, ?_⟩) (by assumption) ?_; rotate_left 1; (focus (intro w' hSw; (try dsimp only at hSw); go_simp; (try with_reducible rfl); done)); try simp only [Act.put, List.setIfInBounds_toArray, List.set_cons_zero, List.set_cons_succ, List.getElem_toArray, List.getElem_cons_zero, List.getElem_cons_succ])
                    (refine wpAnyH_take (i := 15) (v := ?_) rfl (by kernel_rfl) (by kernel_rfl) (by kernel_rfl) (fun _ _ _ h => h) (Or.inl ⟨by rfl, ?_⟩) (by assumption) ?_; rotate_left 1; (focus (intro w' hSw; (try dsimp only at hSw); go_simp; (try with_reducible rfl); done)); try simp only [Act.put, List.setIfInBounds_toArray, List.set_cons_zero, List.set_cons_succ, List.getElem_toArray, List.getElem_cons_zero, List.getElem_cons_succ])
                    refine wpAnyH_ready (rs := [11]) (by kernel_rfl) (by simp) ?_
                    refine AllReadyH.cons rfl (fun K hK => ?_) AllReadyH.nil
                    go_simp
                    go_at_call 22
                    refine (HU2.out _ hc).mono ?_
                    rintro e N8 ⟨rfl, hb⟩
                    replace hc := hc.trans (hb.mono hc.size)
                    clear hb
                    go_wp2_with fail
                    refine hK.out _ _ ⟨(hc.cell (p := ⟨CB, 0, none⟩) lc).trans p0, (hc.cell (p := ⟨CB, 1, none⟩) lc).trans p1, (hc.cell (p := ⟨CB, 2, none⟩) lc).trans p2, (hc.cell (p := ⟨CB + 1, 0, none⟩) ls).trans s0, (hc.cell (p := ⟨CB + 1, 1, none⟩) ls).trans s1, (hc.cell (p := ⟨CB + 1, 2, none⟩) ls).trans s2, (hc.cell (p := ⟨SB, 0, none⟩) lx).trans x0, (hc.cell (p := ⟨SB, 1, none⟩) lx).trans x1, (hc.cell (p := ⟨SB, 2, none⟩) lx).trans x2⟩ (fun hHeld2 => ?_)
                    clear hK K hHeld
                    have hHeld := hHeld2
                    clear hHeld2
                    try simp only [Act.put, List.setIfInBounds_toArray, List.set_cons_zero, List.set_cons_succ, List.getElem_toArray, List.getElem_cons_zero, List.getElem_cons_succ]
                    (refine wpAnyH_take (i := 12) (v := ?_) rfl (by kernel_rfl) (by kernel_rfl) (by kernel_rfl) (fun _ _ _ h => h) (Or.inl ⟨by rfl, ?_⟩) (by assumption) ?_; rotate_left 1; (focus (intro w' hSw; (try dsimp only at hSw); go_simp; (try with_reducible rfl); done)); try simp only [Act.put, List.setIfInBounds_toArray, List.set_cons_zero, List.set_cons_succ, List.getElem_toArray, List.getElem_cons_zero, List.getElem_cons_succ])
                    (refine wpAnyH_take (i := 16) (v := ?_) rfl (by kernel_rfl) (by kernel_rfl) (by kernel_rfl) (fun _ _ _ h => h) (Or.inl ⟨by rfl, ?_⟩) (by assumption) ?_; rotate_left 1; (focus (intro w' hSw; (try dsimp only at hSw); go_simp; (try with_reducible rfl); done)); try simp only [Act.put, List.setIfInBounds_toArray, List.set_cons_zero, List.set_cons_succ, List.getElem_toArray, List.getElem_cons_zero, List.getElem_cons_succ])
                    (refine wpAnyH_take (i := 17) (v := ?_) rfl (by kernel_rfl) (by kernel_rfl) (by kernel_rfl) (fun _ _ _ h => h) (Or.inl ⟨by rfl, ?_⟩) (by assumption) ?_; rotate_left 1; (focus (intro w' hSw; (try dsimp only at hSw); go_simp; (try with_reducible rfl); done)); try simp only [Act.put, List.setIfInBounds_toArray, List.set_cons_zero, List.set_cons_succ, List.getElem_toArray, List.getElem_cons_zero, List.getElem_cons_succ])
                    refine wpAnyH_done (by kernel_rfl) ?_ _
                    clear hHeld
                    go_wp2
                    go_meet
                    exact ⟨rfl, below_next (Below.refl _ _).drew (Nat.le_refl _) hc⟩
              case rest =>
                obtain ⟨rfl, hb⟩ := hcut
                have HBV15 := Lib.hid (HBV14.out.trans (hb.mono HBV14.out.size))
                have HB15 := Lib.hid (HB14.out.trans (hb.mono HB14.out.size))
                have HB1415 := Lib.hid hb
                obtain ⟨W15, hW15⟩ : ∃ W, W = wc := ⟨_, rfl⟩
                subst hW15
                clear hb HCO HU1 HU2
                have hold2 := fun W (h : Below W15.heap.size W15 W) => devHolds_any s A c R f K A1 mk c1 (some ⟨g, 0, none⟩) m c2 F' QA2 QC2 Q2 W (HCF.out.1.next (HBV15.out.trans (h.mono HBV15.out.size))) HCF.out.2.1 (by have := HCF.out.2.2.1; omega) (HT10.out.next (HB15.out.trans (h.mono HB15.out.size))) (by omega) ((HQ14.out.next HB1415.out).next h) (HDB.out.next (HBV15.out.trans (h.mono HBV15.out.size)))
                rw [← HRL.out, ← HCP.out, HGD.out.1] at hold2
                have HOLD := Lib.hid hold2
                have HKEEP := Lib.hid (show needZ cp us lg ≤ (fr : Int) → needZ cp (usN F' m) (lgQ K Q2) ≤ ((cntP (owB F' (-1)) m : Nat) : Int) from fun hh => by
                  unfold usN
                  exact keeps_holds HFR.out (by rw [← HX.out]; exact HGR.out.symm) (by rw [← HX.out]; exact HFREE.out) (fun z h1 h2 => HGD.out.2 z h1 (by rw [HWD.out]; exact h2)) (fun _ => can_same HCAN.out HQ.out HLG.out (by omega) HWN.out) hh)
                clear hold2
                have BC := HBC.out.next HBV15.out
                have BS := HBS.out.next HBV15.out
                have BX := HS10.out.next HB15.out
                have p0 := BC.cell 0
                have p1 := BC.cell 1
                have p2 := BC.cell 2
                have s0 := BS.cell 0
                have s1 := BS.cell 1
                have s2 := BS.cell 2
                have x0 := BX.cell 0
                have x1 := BX.cell 1
                have x2 := BX.cell 2
                simp at p0 p1 p2 s0 s1 s2 x0 x1 x2
                have lc := BC.lt
                have ls := BS.lt
                have lx := BX.lt
                clear BC BS BX
                go_wp2_with fail
                refine (H1.out W15 HBV15.out).mono ?_
                rintro e W16 ⟨rfl, hb⟩
                have HB1516 := Lib.hid hb
                have HBV16 := Lib.hid (HBV15.out.trans (hb.mono HBV15.out.size))
                have HB16 := Lib.hid (HB15.out.trans (hb.mono HB15.out.size))
                clear hb
                clear p0 p1 p2 s0 s1 s2 x0 x1 x2 lc ls lx
                by_cases hh : needZ cp us lg ≤ (fr : Int)
                · rw [decide_eq_true hh]
                  have HH := Lib.hid hh
                  clear hh
                  have BC := HBC.out.next HBV16.out
                  have BS := HBS.out.next HBV16.out
                  have BX := HS10.out.next HB16.out
                  have p0 := BC.cell 0
                  have p1 := BC.cell 1
                  have p2 := BC.cell 2
                  have s0 := BS.cell 0
                  have s1 := BS.cell 1
                  have s2 := BS.cell 2
                  have x0 := BX.cell 0
                  have x1 := BX.cell 1
                  have x2 := BX.cell 2
                  simp at p0 p1 p2 s0 s1 s2 x0 x1 x2
                  have lc := BC.lt
                  have ls := BS.lt
                  have lx := BX.lt
                  clear BC BS BX
                  go_wp2_with fail
                  refine (HOLD.out W16 HB1516.out).mono ?_
                  rintro e W17 ⟨rfl, hb⟩
                  rw [decide_eq_true (HKEEP.out HH.out)]
                  have HBF := Lib.hid (below_next (below_next HV2.out (Nat.le_refl _) HBV16.out) (Nat.le_refl _) hb)
                  clear hb
                  clear p0 p1 p2 s0 s1 s2 x0 x1 x2 lc ls lx
                  go_wp2
                  go_ret
                  exact ⟨rfl, HBF.out⟩
                · rw [decide_eq_false hh]
                  have HBF := Lib.hid (below_next HV2.out (Nat.le_refl _) HBV16.out)
                  clear hh
                  go_wp2
                  go_ret
                  exact ⟨rfl, HBF.out⟩
end Go.Proofs.YtmhbbjbbckdlbaaDoor
