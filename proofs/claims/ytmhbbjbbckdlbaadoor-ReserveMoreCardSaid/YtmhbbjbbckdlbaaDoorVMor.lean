/-
  The walk of ReserveMore.
-/
import Derived.Test.YtmhbbjbbckdlbaaDoorVCnt
namespace Go.Proofs.YtmhbbjbbckdlbaaDoor
open Go.RowKit
set_option maxRecDepth 100000
set_option linter.unusedVariables false

theorem moreK_mono {K W D D' : Nat} (h : D ≤ D') : moreK K W D ≤ moreK K W D' := by
  unfold moreK
  have := ceilV_mono K (show W + D ≤ W + D' by omega)
  omega
/-- A Bool that is true only if another is. -/
def PickB (ob : Bool) (V : World) (q : Value) (wx : World) : Prop := ∃ b, q = .bool b ∧ (b = true → ob = true) ∧ wx = V
/-- The box of an increment that may grow. -/
def IncBox (V2 wx : World) (IB : Nat) : Prop := ∃ (y0 y1 y2 y3 : Int) (Wn : Nat), Wn ≤ 16384 ∧ Blk wx IB 38 #[.int .i64 y0, .int .i64 y1, .int .i64 y2, .int .i64 y3, .int .i64 (Wn : Nat)] ∧ Below V2.heap.size V2 wx

set_option maxHeartbeats 8000000 in
theorem walkMore16 (Al : Option Addr) (nl cl : Nat) (which n mm : Int) (w : World) (hL : ListP w w.heap.size Al nl cl) (hDb : Db w) (g0 : -9223372036854775808 ≤ which) (g1 : which ≤ 9223372036854775807) (n0 : -9223372036854775808 ≤ n) (n1 : n ≤ 9223372036854775807) (q0 : -9223372036854775808 ≤ mm) (q1 : mm ≤ 9223372036854775807) :
    Calls Tryd.prog 5 #[.slice Al nl cl, .int .i64 which, .int .i64 n, .int .i64 mm] w fun e w' => e = .returned (.bool true) ∧ Below w.heap.size w w' := by
  have HL := Lib.hid hL
  have HD0 := Lib.hid hDb
  clear hL hDb
  go_enter Tryd.func5, Tryd.ntmps5
  go_wp2_with fail
  refine (deck_any Al nl cl w HL.out).mono ?_
  rintro e U2 ⟨rfl, hd, hb, hz⟩
  have HDK := Lib.hid hd
  have HBU2 := Lib.hid hb
  clear hd hb
  go_wp2_with fail
  refine (belts_any w.heap.size U2 HDK.out).mono ?_
  rintro e V ⟨s, A, c, R, f, K, m, B, d, gb, d', wd, F, I, QA, QC, rfl, hcf, hsp, hqa, hG⟩
  obtain ⟨mk, hmk⟩ : ∃ mk, mk = m * 2 ^ K := ⟨_, rfl⟩
  obtain ⟨rl, hrl⟩ : ∃ x, x = R.length := ⟨_, rfl⟩
  obtain ⟨Q, hQ⟩ : ∃ Q, Q = qN R.length I := ⟨_, rfl⟩
  have hql : Q.length = rl := by rw [hQ, qN_len, hrl]
  rw [← hmk, ← hrl]
  rw [← hQ] at hqa
  have hrl3 : 3 ≤ rl ∧ rl ≤ 4 := by rw [hrl]; exact hcf.2.2.2.2
  obtain ⟨V2, hV2⟩ : ∃ W, W = (V.alloc (.cells #[.string s, .slice A rl c, .int .i64 f] 27)).alloc (.cells #[.int .i64 K, .slice B mk d, .slice (some ⟨gb, 0, none⟩) m d'] 31) := ⟨_, rfl⟩
  obtain ⟨CB, hCB⟩ : ∃ b, b = V.heap.size := ⟨_, rfl⟩
  have hb2 : Below V.heap.size V V2 := by rw [hV2]; exact ((Below.refl _ _).alloc (Nat.le_refl _) _).alloc (by simp) _
  have HBC := Lib.hid (show Blk V2 CB 27 #[.string s, .slice A rl c, .int .i64 f] by rw [hV2, hCB]; exact (Blk.new _ _ _).alloc _)
  have HBS := Lib.hid (show Blk V2 (CB + 1) 31 #[.int .i64 K, .slice B mk d, .slice (some ⟨gb, 0, none⟩) m d'] by rw [hV2, hCB]; exact Blk.newAt _ _ _ _ (by simp))
  have HV2 := Lib.hid (below_next (below_turn HBU2.out hG (by omega)) (Nat.le_refl _) hb2)
  have HCF := Lib.hid (hcf.next hb2)
  have HSP := Lib.hid (hsp.next hb2)
  have HQF := Lib.hid (hqa.next hb2)
  have HDB := Lib.hid (Db.next HD0.out HV2.out)
  obtain ⟨kk0, kk1, m0, m1, hoA, hoT, hvo, hall, halr, hcov⟩ := HSP.out
  rw [← hmk] at hoA hvo
  have HAF := Lib.hid hoA
  have HTF := Lib.hid hoT
  have HVO := Lib.hid hvo
  have HALL := Lib.hid hall
  have HCOV := Lib.hid hcov
  have HMK := Lib.hid hmk
  obtain ⟨cp, hcp⟩ : ∃ b, b = cplB s R f := ⟨_, rfl⟩
  obtain ⟨us, hus⟩ : ∃ b, b = usN F m := ⟨_, rfl⟩
  obtain ⟨lg, hlg⟩ : ∃ b, b = lgQ K Q := ⟨_, rfl⟩
  obtain ⟨fr, hfr⟩ : ∃ b, b = cntP (owB F (-1)) m := ⟨_, rfl⟩
  have N1 := Lib.hid (show ∀ W, Below V2.heap.size V2 W → Calls Tryd.prog 8 #[.agg #[.string s, .slice A rl c, .int .i64 f], .agg #[.int .i64 K, .slice B mk d, .slice (some ⟨gb, 0, none⟩) m d'], .slice QA rl QC] W fun e w' => e = .returned (.int .i64 (needZ cp us lg)) ∧ Below W.heap.size W w' from fun W hW => by
    rw [hcp, hus, hlg]
    have e1 := hrl; have e2 := hql; subst e1
    have h := devNeeded_any s A c R f K B mk d (some ⟨gb, 0, none⟩) m d' F QA QC Q W (HCF.out.1.next hW) HCF.out.2.1 (by have := HCF.out.2.2.1; omega) (HTF.out.next hW) (by omega) (HQF.out.next hW)
    rw [e2] at h
    exact h)
  have N2 := Lib.hid (show ∀ W, Below V2.heap.size V2 W → Calls Tryd.prog 9 #[.agg #[.string s, .slice A rl c, .int .i64 f], .agg #[.int .i64 K, .slice B mk d, .slice (some ⟨gb, 0, none⟩) m d'], .slice QA rl QC] W fun e w' => e = .returned (.int .i64 (needZ cp us lg)) ∧ Below W.heap.size W w' from fun W hW => by
    rw [hcp, hus, hlg]
    have e1 := hrl; have e2 := hql; subst e1
    have h := refNeeded_any s A c R f K B mk d (some ⟨gb, 0, none⟩) m d' F QA QC Q W (HCF.out.1.next hW) HCF.out.2.1 (by have := HCF.out.2.2.1; omega) (HTF.out.next hW) (by omega) (HQF.out.next hW)
    rw [e2] at h
    exact h)
  have H1 := Lib.hid (show ∀ W, Below V2.heap.size V2 W → Calls Tryd.prog 10 #[.agg #[.string s, .slice A rl c, .int .i64 f], .agg #[.int .i64 K, .slice B mk d, .slice (some ⟨gb, 0, none⟩) m d'], .slice QA rl QC] W fun e w' => e = .returned (.bool (decide (needZ cp us lg ≤ (fr : Nat)))) ∧ Below W.heap.size W w' from fun W hW => by
    rw [hcp, hus, hlg, hfr]
    have e1 := hrl; have e2 := hql; subst e1
    have h := devHolds_any s A c R f K B mk d (some ⟨gb, 0, none⟩) m d' F QA QC Q W (HCF.out.1.next hW) HCF.out.2.1 (by have := HCF.out.2.2.1; omega) (HTF.out.next hW) (by omega) (HQF.out.next hW) (HDB.out.next hW)
    rw [e2] at h
    exact h)
  have H2 := Lib.hid (show ∀ W, Below V2.heap.size V2 W → Calls Tryd.prog 11 #[.agg #[.string s, .slice A rl c, .int .i64 f], .agg #[.int .i64 K, .slice B mk d, .slice (some ⟨gb, 0, none⟩) m d'], .slice QA rl QC] W fun e w' => e = .returned (.bool (decide (needZ cp us lg ≤ (fr : Nat)))) ∧ Below W.heap.size W w' from fun W hW => by
    rw [hcp, hus, hlg, hfr]
    have e1 := hrl; have e2 := hql; subst e1
    have h := refHolds_any s A c R f K B mk d (some ⟨gb, 0, none⟩) m d' F QA QC Q W (HCF.out.1.next hW) HCF.out.2.1 (by have := HCF.out.2.2.1; omega) (HTF.out.next hW) (by omega) (HQF.out.next hW)
    rw [e2] at h
    exact h)
  have G1 := Lib.hid (show ∀ W, Below V2.heap.size V2 W → ∀ (sq bt fi la : Int) (Wn D : Nat), Wn ≤ 16384 → D ≤ 48 → Calls Tryd.prog 13 #[.agg #[.string s, .slice A rl c, .int .i64 f], .agg #[.int .i64 K, .slice B mk d, .slice (some ⟨gb, 0, none⟩) m d'], .slice QA rl QC, .agg #[.int .i64 sq, .int .i64 bt, .int .i64 fi, .int .i64 la, .int .i64 (Wn : Nat)], .int .i64 (D : Nat)] W fun e w' => e = .returned (.bool (grB cp m us lg (ceilV Wn K : Nat) (moreK K Wn D))) ∧ Below W.heap.size W w' from fun W hW sq bt fi la Wn D h1 h2 => by
    rw [hcp, hus, hlg]
    have e1 := hrl; have e2 := hql; subst e1
    have h := devGrants_at s A c R f K B mk d (some ⟨gb, 0, none⟩) m d' F QA QC Q W sq bt fi la Wn D h1 h2 (by omega) (HCF.out.1.next hW) HCF.out.2.1 (by have := HCF.out.2.2.1; omega) (HTF.out.next hW) (by omega) (HQF.out.next hW) (HDB.out.next hW)
    rw [e2] at h
    exact h)
  have G2 := Lib.hid (show ∀ W, Below V2.heap.size V2 W → ∀ (sq bt fi la : Int) (Wn D : Nat), Wn ≤ 16384 → D ≤ 48 → Calls Tryd.prog 14 #[.agg #[.string s, .slice A rl c, .int .i64 f], .agg #[.int .i64 K, .slice B mk d, .slice (some ⟨gb, 0, none⟩) m d'], .slice QA rl QC, .agg #[.int .i64 sq, .int .i64 bt, .int .i64 fi, .int .i64 la, .int .i64 (Wn : Nat)], .int .i64 (D : Nat)] W fun e w' => e = .returned (.bool (grB cp m us lg (ceilV Wn K : Nat) (moreK K Wn D))) ∧ Below W.heap.size W w' from fun W hW sq bt fi la Wn D h1 h2 => by
    rw [hcp, hus, hlg]
    have e1 := hrl; have e2 := hql; subst e1
    have h := refGrants_at s A c R f K B mk d (some ⟨gb, 0, none⟩) m d' F QA QC Q W sq bt fi la Wn D h1 h2 (by omega) (HCF.out.1.next hW) HCF.out.2.1 (by have := HCF.out.2.2.1; omega) (HTF.out.next hW) (by omega) (HQF.out.next hW)
    rw [e2] at h
    exact h)
  have HFR := Lib.hid (show us + fr = m by rw [hus, hfr]; unfold usN; have := cntP_le (owB F (-1)) m; omega)
  have HUS := Lib.hid hus
  have HFRE := Lib.hid hfr
  have HLG := Lib.hid hlg
  have HCP := Lib.hid hcp
  have HQE := Lib.hid hQ
  have HQL := Lib.hid hql
  have HRL := Lib.hid hrl
  have HVE := Lib.hid hV2
  have HCE := Lib.hid hCB
  clear hcf hsp hqa hG hmk hrl hQ hql hV2 hCB hb2 hoA hoT hvo hall halr hcov hcp hus hlg hfr HBU2 HDK hz HL HD0
  have hFL : Q.flatten = (qOf I).flatten := by rw [HQE.out]; exact qN_flat (by rw [← HRL.out]; omega) (allP_belts HALL.out)
  have HFLE := Lib.hid hFL
  have HIN := Lib.hid (show ∀ i ∈ Q.flatten, ∃ Wn : Nat, i.wo = Wn ∧ Wn ≤ 16384 from fun i hi => by
    rw [hFL] at hi
    obtain ⟨t, ht⟩ := List.mem_iff_getElem?.1 ((flat_memV HALL.out).1 hi)
    obtain ⟨⟨_, _, _, _, Wn, hwn, _, hcnt⟩, _⟩ := HALL.out t i ht
    refine ⟨Wn, hwn, ?_⟩
    have h1 := ceilV_cover Wn K
    have h2 := cntO_le F i.sq m
    have h3 : 2 ^ K ≤ 16 := by rcases (by omega : K = 3 ∨ K = 4) with rfl | rfl <;> decide
    have h4 : ceilV Wn K * 2 ^ K ≤ 10 * 16 := Nat.mul_le_mul (by omega) h3
    omega)
  clear hFL
  obtain ⟨wk, hwk⟩ : ∃ x : Nat, (x : Int) = which % 2 := ⟨(which % 2).toNat, by have := Int.emod_nonneg which (show (2 : Int) ≠ 0 by decide); omega⟩
  have wkl : (wk : Int) < 2 := by rw [hwk]; exact Int.emod_lt_of_pos _ (by decide)
  have hmwk := fun W => mod_any which 2 (by decide) (by decide) g0 g1 W
  rw [← hwk] at hmwk
  clear hwk
  obtain ⟨an, han⟩ : ∃ x : Nat, (x : Int) = n % 48 := ⟨(n % 48).toNat, by have := Int.emod_nonneg n (show (48 : Int) ≠ 0 by decide); omega⟩
  have anl : (an : Int) < 48 := by rw [han]; exact Int.emod_lt_of_pos _ (by decide)
  have hman := fun W => mod_any n 48 (by decide) (by decide) n0 n1 W
  rw [← han] at hman
  clear han
  obtain ⟨bn, hbn⟩ : ∃ x : Nat, (x : Int) = mm % 48 := ⟨(mm % 48).toNat, by have := Int.emod_nonneg mm (show (48 : Int) ≠ 0 by decide); omega⟩
  have bnl : (bn : Int) < 48 := by rw [hbn]; exact Int.emod_lt_of_pos _ (by decide)
  have hmbn := fun W => mod_any mm 48 (by decide) (by decide) q0 q1 W
  rw [← hbn] at hmbn
  clear hbn
  obtain ⟨W3, hW3⟩ : ∃ W, W = V2.alloc (.cells #[.int .i64 99, .int .i64 0, .int .i64 (-1), .int .i64 (-1), .int .i64 0] 38) := ⟨_, rfl⟩
  have hb3 : Below V2.heap.size V2 W3 := by rw [hW3]; exact (Below.refl _ _).alloc (Nat.le_refl _) _
  obtain ⟨IB, hIB⟩ : ∃ b, b = V2.heap.size := ⟨_, rfl⟩
  have HI3 := Lib.hid (show Blk W3 IB 38 #[.int .i64 99, .int .i64 0, .int .i64 (-1), .int .i64 (-1), .int .i64 ((0 : Nat) : Int)] by rw [hW3, hIB]; exact Blk.new _ _ _)
  have HB3 := Lib.hid hb3
  have hq3 := HQF.out.next hb3
  have HYG := Lib.hid (show Calls Tryd.prog 16 #[.slice QA rl QC, .int .i64 0] W3 (GivesI (youV Q 0) W3) from by
    have h := refYoungest_any QA QC Q 0 W3 hq3 (by rw [HQL.out]; omega)
    rw [HQL.out] at h
    exact h)
  have HYM := Lib.hid (show ∀ y, youV Q 0 = some y → ∃ Wn : Nat, y.wo = Wn ∧ Wn ≤ 16384 from fun y hy => HIN.out y (by
    unfold youV at hy
    rcases hq : Q[0]? with _ | q
    · rw [hq] at hy; cases hy
    · rw [hq] at hy
      exact List.mem_flatten.2 ⟨q, List.mem_iff_getElem?.2 ⟨0, hq⟩, List.mem_of_getLast? hy⟩))
  have HW3 := Lib.hid hW3
  have HIBE := Lib.hid hIB
  clear hW3 hb3 hIB hq3
  go_upto_region 3 with fail
  rw [← HCE.out, ← HVE.out]
  go_upto_region 4 with fail
  rw [← HW3.out, ← HIBE.out]
  go_wp2_with fail
  refine HYG.out.mono ?_
  rintro e W4 ⟨rfl, hb⟩
  have HB4 := Lib.hid (HB3.out.trans (Below.mono hb HB3.out.size))
  have HI4 := Lib.hid (HI3.out.next hb)
  obtain ⟨oy, hoy⟩ : ∃ o, o = youV Q 0 := ⟨_, rfl⟩
  rw [← hoy]
  have HOY := Lib.hid hoy
  clear hb hoy
  obtain ⟨y, hy⟩ : ∃ y, y = oy.getD inc0 := ⟨_, rfl⟩
  obtain ⟨ob, hob⟩ : ∃ b, b = oy.isSome := ⟨_, rfl⟩
  rw [← hy, ← hob]
  have HYW := Lib.hid (show ob = true → ∃ Wn : Nat, y.wo = Wn ∧ Wn ≤ 16384 from fun h => by
    rcases hoo : oy with _ | y'
    · rw [hoo] at hob; rw [hob] at h; cases h
    · rw [hoo] at hy
      rw [hy]
      exact HYM.out y' (by rw [← HOY.out, hoo]))
  simp only [IncR.v]
  generalize y.sq = y0
  generalize y.bt = y1
  generalize y.fi = y2
  generalize y.la = y3
  generalize y.wo = y4 at *
  obtain ⟨W5, hW5⟩ : ∃ W, W = W4.alloc (.cells #[.int .i64 y0, .int .i64 y1, .int .i64 y2, .int .i64 y3, .int .i64 y4] 38) := ⟨_, rfl⟩
  have hb5 : Below W4.heap.size W4 W5 := by rw [hW5]; exact (Below.refl _ _).alloc (Nat.le_refl _) _
  obtain ⟨YB, hYB⟩ : ∃ b, b = W4.heap.size := ⟨_, rfl⟩
  have HY5 := Lib.hid (show Blk W5 YB 38 #[.int .i64 y0, .int .i64 y1, .int .i64 y2, .int .i64 y3, .int .i64 y4] by rw [hW5, hYB]; exact Blk.new _ _ _)
  have HI5 := Lib.hid (HI4.out.next hb5)
  have HB5 := Lib.hid (HB4.out.trans (hb5.mono HB4.out.size))
  have hiy : IB ≠ YB := by have := HI4.out.lt; omega
  have HW5 := Lib.hid hW5
  have HYBE := Lib.hid hYB
  clear hy hob hW5 hb5 hYB
  go_upto_region 5 with fail
  rw [← HW5.out, ← HYBE.out]
  go_cut [37] (fun q wx => PickB ob W5 q wx)
  case first =>
    cases ob with
    | false =>
      go_wp2_with fail
      go_meet
      exact ⟨false, rfl, fun h => (by cases h), rfl⟩
    | true =>
      go_wp2_with fail
      refine (hmwk _).mono ?_
      rintro e w1 ⟨rfl, rfl⟩
      go_wp2_with fail
      go_meet
      exact ⟨_, rfl, fun _ => rfl, rfl⟩
  case rest =>
    obtain ⟨b, rfl, hbo, rfl⟩ := hcut
    have HBO := Lib.hid hbo
    clear hbo
    go_upto_if 37 with fail
    go_cut [] (fun wx => IncBox V2 wx IB)
    case first =>
      cases b with
      | false =>
        go_wp2_with fail
        go_meet
        exact ⟨99, 0, -1, -1, 0, by omega, HI5.out, HB5.out⟩
      | true =>
        obtain ⟨Wn, rfl, hwn⟩ := HYW.out (HBO.out rfl)
        have p0 := HY5.out.cell 0
        have p1 := HY5.out.cell 1
        have p2 := HY5.out.cell 2
        have p3 := HY5.out.cell 3
        have p4 := HY5.out.cell 4
        have r0 := HI5.out.cell 0
        have r1 := HI5.out.cell 1
        have r2 := HI5.out.cell 2
        have r3 := HI5.out.cell 3
        have r4 := HI5.out.cell 4
        have f0 := HI5.out.frozen 0
        have f1 := HI5.out.frozen 1
        have f2 := HI5.out.frozen 2
        have f3 := HI5.out.frozen 3
        have f4 := HI5.out.frozen 4
        simp at p0 p1 p2 p3 p4 r0 r1 r2 r3 r4
        have hle : V2.heap.size ≤ IB := by rw [HIBE.out]; omega
        have HLE := Lib.hid hle
        have HWN := Lib.hid hwn
        clear hle hwn
        go_wp2_with fail
        go_meet
        exact ⟨y0, y1, y2, y3, Wn, HWN.out, ((((HI5.out.set_ 0 _).set_ 1 _).set_ 2 _).set_ 3 _).set_ 4 _, below_put5 HB5.out HLE.out _ _ _ _ _⟩
    case rest =>
      obtain ⟨y0, y1, y2, y3, Wn, hwn, hbi, hbv⟩ := hcut
      have HBI := Lib.hid hbi
      have HBV := Lib.hid hbv
      have HWN := Lib.hid hwn
      obtain ⟨W6, hW6⟩ : ∃ W, W = wc := ⟨_, rfl⟩
      subst hW6
      clear hbi hbv hwn HY5 HI5 HB5 HBO HYW HYM HYG HW5 HYBE HI4 HB4 HI3 HB3 HW3 hmwk
      obtain ⟨av, hav⟩ : ∃ x : Nat, x = 1 + an := ⟨_, rfl⟩
      obtain ⟨bv, hbv⟩ : ∃ x : Nat, x = 1 + bn := ⟨_, rfl⟩
      have ha2 : IntKind.i64.wrap (1 + (an : Int)) = (av : Int) := by rw [IntWalk.i64_in _ (by omega)]; omega
      have hb2 : IntKind.i64.wrap (1 + (bn : Int)) = (bv : Int) := by rw [IntWalk.i64_in _ (by omega)]; omega
      have HAV := Lib.hid (show av ≤ 48 by omega)
      have HBV2 := Lib.hid (show bv ≤ 48 by omega)
      clear hav hbv
      go_wp2_with fail
      refine (hman _).mono ?_
      rintro e w1 ⟨rfl, rfl⟩
      go_wp2_with fail
      refine (hmbn _).mono ?_
      rintro e w1 ⟨rfl, rfl⟩
      go_upto_region 8 with fail
      obtain ⟨mx, hmx0⟩ : ∃ x : Nat, x = max av bv := ⟨_, rfl⟩
      obtain ⟨mn, hmn0⟩ : ∃ x : Nat, x = min av bv := ⟨_, rfl⟩
      have hx1 : (if av < bv then (bv : Int) else (av : Int)) = (mx : Int) := by split <;> omega
      have hx2 : (if bv < av then (bv : Int) else (av : Int)) = (mn : Int) := by split <;> omega
      have hx3 : (if av < bv then (av : Int) else (bv : Int)) = (mn : Int) := by split <;> omega
      have hx4 : (if bv < av then (av : Int) else (bv : Int)) = (mx : Int) := by split <;> omega
      have HMX := Lib.hid (show mx ≤ 48 by have := HAV.out; have := HBV2.out; omega)
      have HMN := Lib.hid (show mn ≤ 48 by have := HAV.out; have := HBV2.out; omega)
      have HMM := Lib.hid (show mn ≤ mx by omega)
      clear hmx0 hmn0
      go_cut [63] (fun q wx => q = .bool false ∧ Below W6.heap.size W6 wx)
      case first =>
        have BC := HBC.out.next HBV.out
        have BS := HBS.out.next HBV.out
        have p0 := BC.cell 0
        have p1 := BC.cell 1
        have p2 := BC.cell 2
        have s0 := BS.cell 0
        have s1 := BS.cell 1
        have s2 := BS.cell 2
        simp at p0 p1 p2 s0 s1 s2
        have lc := BC.lt
        have ls := BS.lt
        clear BC BS
        have BI := HBI.out
        have i0 := BI.cell 0
        have i1 := BI.cell 1
        have i2 := BI.cell 2
        have i3 := BI.cell 3
        have i4 := BI.cell 4
        simp at i0 i1 i2 i3 i4
        have li := BI.lt
        clear BI
        go_wp2_with fail
        refine (G1.out W6 HBV.out y0 y1 y2 y3 Wn mx HWN.out HMX.out).mono ?_
        rintro e W7 ⟨rfl, hb⟩
        obtain ⟨gr, hgr⟩ : ∃ b, b = grB cp m us lg (ceilV Wn K : Nat) (moreK K Wn mx) := ⟨_, rfl⟩
        rw [← hgr]
        have HGR := Lib.hid hgr
        have HB7 := Lib.hid hb
        clear hb hgr
        clear p0 p1 p2 s0 s1 s2 lc ls
        clear i0 i1 i2 i3 i4 li
        cases gr with
        | false =>
          go_wp2_with fail
          go_meet
          exact ⟨rfl, HB7.out⟩
        | true =>
          have HBV7 := Lib.hid (HBV.out.trans (Below.mono HB7.out HBV.out.size))
          have hgm : grB cp m us lg (ceilV Wn K : Nat) (moreK K Wn mn) = true := grB_mono HGR.out.symm (moreK_mono HMM.out)
          have HGM := Lib.hid hgm
          clear hgm
          have BC := HBC.out.next HBV7.out
          have BS := HBS.out.next HBV7.out
          have p0 := BC.cell 0
          have p1 := BC.cell 1
          have p2 := BC.cell 2
          have s0 := BS.cell 0
          have s1 := BS.cell 1
          have s2 := BS.cell 2
          simp at p0 p1 p2 s0 s1 s2
          have lc := BC.lt
          have ls := BS.lt
          clear BC BS
          have BI := HBI.out.next HB7.out
          have i0 := BI.cell 0
          have i1 := BI.cell 1
          have i2 := BI.cell 2
          have i3 := BI.cell 3
          have i4 := BI.cell 4
          simp at i0 i1 i2 i3 i4
          have li := BI.lt
          clear BI
          go_wp2_with fail
          refine (G1.out W7 HBV7.out y0 y1 y2 y3 Wn mn HWN.out HMN.out).mono ?_
          rintro e W8 ⟨rfl, hb⟩
          rw [HGM.out]
          have HB8 := Lib.hid (HB7.out.trans (Below.mono hb HB7.out.size))
          clear hb
          clear p0 p1 p2 s0 s1 s2 lc ls
          clear i0 i1 i2 i3 i4 li
          go_wp2_with fail
          go_meet
          exact ⟨rfl, HB8.out⟩
      case rest =>
        obtain ⟨rfl, hb⟩ := hcut
        have HBV9 := Lib.hid (HBV.out.trans (Below.mono hb HBV.out.size))
        clear hb hx1 hx2 hx3 hx4
        obtain ⟨W9, hW9⟩ : ∃ W, W = wc := ⟨_, rfl⟩
        subst hW9
        have BC := HBC.out.next HBV9.out
        have BS := HBS.out.next HBV9.out
        have p0 := BC.cell 0
        have p1 := BC.cell 1
        have p2 := BC.cell 2
        have s0 := BS.cell 0
        have s1 := BS.cell 1
        have s2 := BS.cell 2
        simp at p0 p1 p2 s0 s1 s2
        have lc := BC.lt
        have ls := BS.lt
        clear BC BS
        go_wp2_with fail
        have hco := refComplete_any s A c R f W9 (HCF.out.1.next HBV9.out) HCF.out.2.1 (by have := HCF.out.2.2.1; omega)
        rw [← HRL.out, ← HCP.out] at hco
        refine hco.mono ?_
        rintro e W10 ⟨rfl, hb⟩
        have HBV10 := Lib.hid (HBV9.out.trans (Below.mono hb HBV9.out.size))
        clear hb hco
        clear p0 p1 p2 s0 s1 s2 lc ls
        cases cp with
        | false =>
          go_wp2_with fail
          refine (awake16_any _ (Db.next HDB.out HBV10.out)).mono ?_
          rintro e w8 ⟨rfl, hb⟩
          have HBF := Lib.hid (below_next (below_next HV2.out (Nat.le_refl _) HBV10.out) (Nat.le_refl _) hb)
          clear hb
          go_wp2
          go_ret
          exact ⟨rfl, HBF.out⟩
        | true =>
          have BC := HBC.out.next HBV10.out
          have BS := HBS.out.next HBV10.out
          have p0 := BC.cell 0
          have p1 := BC.cell 1
          have p2 := BC.cell 2
          have s0 := BS.cell 0
          have s1 := BS.cell 1
          have s2 := BS.cell 2
          simp at p0 p1 p2 s0 s1 s2
          have lc := BC.lt
          have ls := BS.lt
          clear BC BS
          go_wp2_with fail
          refine (H1.out W10 HBV10.out).mono ?_
          rintro e W11 ⟨rfl, hb⟩
          have HBW := Lib.hid (HBV10.out.trans (Below.mono hb HBV10.out.size))
          clear hb
          clear p0 p1 p2 s0 s1 s2 lc ls
          by_cases hh : needZ true us lg ≤ (fr : Int)
          · rw [decide_eq_true hh]
            have hh2 : us ≤ fr := by have h : (us : Int) ≤ fr := hh; omega
            have HFL := Lib.hid (show (ownL F (-1) m).length = fr from (lstP_length (owB F (-1)) m).trans HFRE.out.symm)
            have hsnd := made_snd HALL.out HMK.out HCOV.out
            have hown := (snd_iff HVO.out.1.fv hsnd.1).1 hsnd
            have hJ := bel_mem hsnd.1
            obtain ⟨h1, _⟩ := own_words (k := K) (qOf I).flatten (fun i hi => (hJ i hi).1)
            have hcu := cntU_own F m
            have hfr2 := HFRE.out
            have hfu := HFR.out
            rw [← hown, show cntU F m = us by omega] at h1
            obtain ⟨P, hP⟩ : ∃ P : Nat, P = 2 ^ K := ⟨_, rfl⟩
            have hPc : P = 8 ∨ P = 16 := by rcases (by omega : K = 3 ∨ K = 4) with rfl | rfl <;> omega
            have hPI : (2 : Int) ^ K = (P : Int) := by rw [hP]; simp
            rw [← hP] at h1
            obtain ⟨Ws, hWs⟩ : ∃ W, W = sumW (qOf I).flatten := ⟨_, rfl⟩
            rw [← hWs] at h1
            have hw1 : (Ws : Int) ≤ (fr : Int) * (P : Int) := by rcases hPc with rfl | rfl <;> omega
            have hw2 : wrdQ Q = (Ws : Int) := by
              rw [hWs, ← HFLE.out]
              refine wrdQ_sum (fun i hi => by rw [HFLE.out] at hi; have := (hJ i hi).1; omega) ?_
              rw [HFLE.out, ← hWs]
              rcases hPc with rfl | rfl <;> omega
            have hshl : IntKind.i64.wrap ((fr : Int) * (P : Int)) = (fr : Int) * (P : Int) := by rcases hPc with rfl | rfl <;> exact IntWalk.i64_in _ (by omega)
            have HWRD := Lib.hid (show ∀ W, QArr W (Lt W.heap.size) QA QC Q → Calls Tryd.prog 24 #[.slice QA rl QC] W fun e w' => e = .returned (.int .i64 (Ws : Int)) ∧ Below W.heap.size W w' from fun W hW => by
              have h := refWords_any QA QC Q W hW
              rw [HQL.out, hw2] at h
              exact h)
            obtain ⟨b1, b2, b3⟩ := bits_k kk0 kk1
            clear hsnd hown hJ hcu hfr2 hfu hP hWs hw2 hh
            go_upto_region 11 with fail
            have HB0 : Hid (Below V2.heap.size V2 W11.drew) := Lib.hid HBW.out.drew
            have BS0 := HBS.out.next HBW.out
            have BS : Blk W11.drew (CB + 1) 31 #[.int .i64 K, .slice B mk d, .slice (some ⟨gb, 0, none⟩) m d'] := BS0
            have ls : CB + 1 < W11.drew.heap.size := BS.lt
            have hc : Below W11.drew.heap.size W11.drew W11.drew := Below.refl _ _
            have p0 : W11.drew.cell? ⟨CB + 1, 0, none⟩ = some (.int .i64 K) := BS.cell 0
            have p1 : W11.drew.cell? ⟨CB + 1, 1, none⟩ = some (.slice B mk d) := BS.cell 1
            have p2 : W11.drew.cell? ⟨CB + 1, 2, none⟩ = some (.slice (some ⟨gb, 0, none⟩) m d') := BS.cell 2
            go_region_held3 (fun w' => w'.cell? ⟨CB + 1, 0, none⟩ = some (.int .i64 K) ∧ w'.cell? ⟨CB + 1, 1, none⟩ = some (.slice B mk d) ∧ w'.cell? ⟨CB + 1, 2, none⟩ = some (.slice (some ⟨gb, 0, none⟩) m d'))
              (first | (with_reducible exact ⟨p0, p1, p2⟩) | (with_reducible exact ⟨(hc.cell (p := ⟨CB + 1, 0, none⟩) ls).trans p0, (hc.cell (p := ⟨CB + 1, 1, none⟩) ls).trans p1, (hc.cell (p := ⟨CB + 1, 2, none⟩) ls).trans p2⟩))
              (first
                | (go_at_call 23; refine (refFreeC_any K (.slice B mk d) (some ⟨gb, 0, none⟩) m d' F _ (HTF.out.next (HB0.out.trans (Below.mono hc HB0.out.size))) (by omega)).mono ?_; rintro e wn ⟨NA, nc, rfl, _, hb⟩; rw [HFL.out]; replace hc : Below W11.drew.heap.size W11.drew wn := hc.trans (Below.mono hb hc.size))
                | (go_at_call 24; refine ((HWRD.out _ (HQF.out.next (HB0.out.trans (Below.mono hc HB0.out.size))))).mono ?_; rintro e wn ⟨rfl, hb⟩; replace hc : Below W11.drew.heap.size W11.drew wn := hc.trans (Below.mono hb hc.size))
              )
            all_goals
              have HBF := Lib.hid (below_next HV2.out (Nat.le_refl _) (HB0.out.trans (Below.mono hc HB0.out.size)))
              clear hc
              go_wp2
              go_ret
              exact ⟨rfl, HBF.out⟩
          · rw [decide_eq_false hh]
            go_wp2_with fail
            refine (awake16_any _ (Db.next HDB.out HBW.out)).mono ?_
            rintro e w8 ⟨rfl, hb⟩
            have HBF := Lib.hid (below_next (below_next HV2.out (Nat.le_refl _) HBW.out) (Nat.le_refl _) hb)
            clear hb
            go_wp2
            go_ret
            exact ⟨rfl, HBF.out⟩
end Go.Proofs.YtmhbbjbbckdlbaaDoor
