/-
  The walk of ReserveCounts.
-/
import Derived.Test.YtmhbbjbbckdlbaaDoorVAwk
namespace Go.Proofs.YtmhbbjbbckdlbaaDoor
open Go.RowKit
set_option maxRecDepth 100000
set_option linter.unusedVariables false


set_option maxHeartbeats 8000000 in
theorem walkCounts16 (Al : Option Addr) (nl cl : Nat) (which n : Int) (w : World) (hL : ListP w w.heap.size Al nl cl) (hDb : Db w) (n0 : -9223372036854775808 ≤ n) (n1 : n ≤ 9223372036854775807) :
    Calls Tryd.prog 3 #[.slice Al nl cl, .int .i64 which, .int .i64 n] w fun e w' => e = .returned (.bool true) ∧ Below w.heap.size w w' := by
  have HL := Lib.hid hL
  have HD0 := Lib.hid hDb
  clear hL hDb
  go_enter Tryd.func3, Tryd.ntmps3
  go_wp2_with fail
  refine (deck_any Al nl cl w HL.out).mono ?_
  rintro e U2 ⟨rfl, hd, hb, hz⟩
  have HDK := Lib.hid hd
  have HBU2 := Lib.hid hb
  clear hd hb
  go_wp2_with fail
  refine (belts_any w.heap.size U2 HDK.out).mono ?_
  rintro e V ⟨s, A, c, R, f, K, m, B, d, gb, d', wd, F, I, QA, QC, rfl, hcf, hsp, hqa, hG⟩
  obtain ⟨mk, hmk⟩ : ∃ mk, mk = m * 2 ^ K := ⟨_, rfl⟩
  obtain ⟨rl, hrl⟩ : ∃ x, x = R.length := ⟨_, rfl⟩
  obtain ⟨Q, hQ⟩ : ∃ Q, Q = qN R.length I := ⟨_, rfl⟩
  have hql : Q.length = rl := by rw [hQ, qN_len, hrl]
  rw [← hmk, ← hrl]
  rw [← hQ] at hqa
  have hrl3 : 3 ≤ rl ∧ rl ≤ 4 := by rw [hrl]; exact hcf.2.2.2.2
  obtain ⟨V2, hV2⟩ : ∃ W, W = (V.alloc (.cells #[.string s, .slice A rl c, .int .i64 f] 27)).alloc (.cells #[.int .i64 K, .slice B mk d, .slice (some ⟨gb, 0, none⟩) m d'] 31) := ⟨_, rfl⟩
  obtain ⟨CB, hCB⟩ : ∃ b, b = V.heap.size := ⟨_, rfl⟩
  have hb2 : Below V.heap.size V V2 := by rw [hV2]; exact ((Below.refl _ _).alloc (Nat.le_refl _) _).alloc (by simp) _
  have HBC := Lib.hid (show Blk V2 CB 27 #[.string s, .slice A rl c, .int .i64 f] by rw [hV2, hCB]; exact (Blk.new _ _ _).alloc _)
  have HBS := Lib.hid (show Blk V2 (CB + 1) 31 #[.int .i64 K, .slice B mk d, .slice (some ⟨gb, 0, none⟩) m d'] by rw [hV2, hCB]; exact Blk.newAt _ _ _ _ (by simp))
  have HV2 := Lib.hid (below_next (below_turn HBU2.out hG (by omega)) (Nat.le_refl _) hb2)
  have HCF := Lib.hid (hcf.next hb2)
  have HSP := Lib.hid (hsp.next hb2)
  have HQF := Lib.hid (hqa.next hb2)
  have HDB := Lib.hid (Db.next HD0.out HV2.out)
  obtain ⟨kk0, kk1, m0, m1, hoA, hoT, hvo, hall, halr, hcov⟩ := HSP.out
  rw [← hmk] at hoA hvo
  have HAF := Lib.hid hoA
  have HTF := Lib.hid hoT
  have HVO := Lib.hid hvo
  have HALL := Lib.hid hall
  have HCOV := Lib.hid hcov
  have HMK := Lib.hid hmk
  obtain ⟨cp, hcp⟩ : ∃ b, b = cplB s R f := ⟨_, rfl⟩
  obtain ⟨us, hus⟩ : ∃ b, b = usN F m := ⟨_, rfl⟩
  obtain ⟨lg, hlg⟩ : ∃ b, b = lgQ K Q := ⟨_, rfl⟩
  obtain ⟨fr, hfr⟩ : ∃ b, b = cntP (owB F (-1)) m := ⟨_, rfl⟩
  have N1 := Lib.hid (show ∀ W, Below V2.heap.size V2 W → Calls Tryd.prog 8 #[.agg #[.string s, .slice A rl c, .int .i64 f], .agg #[.int .i64 K, .slice B mk d, .slice (some ⟨gb, 0, none⟩) m d'], .slice QA rl QC] W fun e w' => e = .returned (.int .i64 (needZ cp us lg)) ∧ Below W.heap.size W w' from fun W hW => by
    rw [hcp, hus, hlg]
    have e1 := hrl; have e2 := hql; subst e1
    have h := devNeeded_any s A c R f K B mk d (some ⟨gb, 0, none⟩) m d' F QA QC Q W (HCF.out.1.next hW) HCF.out.2.1 (by have := HCF.out.2.2.1; omega) (HTF.out.next hW) (by omega) (HQF.out.next hW)
    rw [e2] at h
    exact h)
  have N2 := Lib.hid (show ∀ W, Below V2.heap.size V2 W → Calls Tryd.prog 9 #[.agg #[.string s, .slice A rl c, .int .i64 f], .agg #[.int .i64 K, .slice B mk d, .slice (some ⟨gb, 0, none⟩) m d'], .slice QA rl QC] W fun e w' => e = .returned (.int .i64 (needZ cp us lg)) ∧ Below W.heap.size W w' from fun W hW => by
    rw [hcp, hus, hlg]
    have e1 := hrl; have e2 := hql; subst e1
    have h := refNeeded_any s A c R f K B mk d (some ⟨gb, 0, none⟩) m d' F QA QC Q W (HCF.out.1.next hW) HCF.out.2.1 (by have := HCF.out.2.2.1; omega) (HTF.out.next hW) (by omega) (HQF.out.next hW)
    rw [e2] at h
    exact h)
  have H1 := Lib.hid (show ∀ W, Below V2.heap.size V2 W → Calls Tryd.prog 10 #[.agg #[.string s, .slice A rl c, .int .i64 f], .agg #[.int .i64 K, .slice B mk d, .slice (some ⟨gb, 0, none⟩) m d'], .slice QA rl QC] W fun e w' => e = .returned (.bool (decide (needZ cp us lg ≤ (fr : Nat)))) ∧ Below W.heap.size W w' from fun W hW => by
    rw [hcp, hus, hlg, hfr]
    have e1 := hrl; have e2 := hql; subst e1
    have h := devHolds_any s A c R f K B mk d (some ⟨gb, 0, none⟩) m d' F QA QC Q W (HCF.out.1.next hW) HCF.out.2.1 (by have := HCF.out.2.2.1; omega) (HTF.out.next hW) (by omega) (HQF.out.next hW) (HDB.out.next hW)
    rw [e2] at h
    exact h)
  have H2 := Lib.hid (show ∀ W, Below V2.heap.size V2 W → Calls Tryd.prog 11 #[.agg #[.string s, .slice A rl c, .int .i64 f], .agg #[.int .i64 K, .slice B mk d, .slice (some ⟨gb, 0, none⟩) m d'], .slice QA rl QC] W fun e w' => e = .returned (.bool (decide (needZ cp us lg ≤ (fr : Nat)))) ∧ Below W.heap.size W w' from fun W hW => by
    rw [hcp, hus, hlg, hfr]
    have e1 := hrl; have e2 := hql; subst e1
    have h := refHolds_any s A c R f K B mk d (some ⟨gb, 0, none⟩) m d' F QA QC Q W (HCF.out.1.next hW) HCF.out.2.1 (by have := HCF.out.2.2.1; omega) (HTF.out.next hW) (by omega) (HQF.out.next hW)
    rw [e2] at h
    exact h)
  have G1 := Lib.hid (show ∀ W, Below V2.heap.size V2 W → ∀ (sq bt fi la : Int) (Wn D : Nat), Wn ≤ 16384 → D ≤ 48 → Calls Tryd.prog 13 #[.agg #[.string s, .slice A rl c, .int .i64 f], .agg #[.int .i64 K, .slice B mk d, .slice (some ⟨gb, 0, none⟩) m d'], .slice QA rl QC, .agg #[.int .i64 sq, .int .i64 bt, .int .i64 fi, .int .i64 la, .int .i64 (Wn : Nat)], .int .i64 (D : Nat)] W fun e w' => e = .returned (.bool (grB cp m us lg (ceilV Wn K : Nat) (moreK K Wn D))) ∧ Below W.heap.size W w' from fun W hW sq bt fi la Wn D h1 h2 => by
    rw [hcp, hus, hlg]
    have e1 := hrl; have e2 := hql; subst e1
    have h := devGrants_at s A c R f K B mk d (some ⟨gb, 0, none⟩) m d' F QA QC Q W sq bt fi la Wn D h1 h2 (by omega) (HCF.out.1.next hW) HCF.out.2.1 (by have := HCF.out.2.2.1; omega) (HTF.out.next hW) (by omega) (HQF.out.next hW) (HDB.out.next hW)
    rw [e2] at h
    exact h)
  have G2 := Lib.hid (show ∀ W, Below V2.heap.size V2 W → ∀ (sq bt fi la : Int) (Wn D : Nat), Wn ≤ 16384 → D ≤ 48 → Calls Tryd.prog 14 #[.agg #[.string s, .slice A rl c, .int .i64 f], .agg #[.int .i64 K, .slice B mk d, .slice (some ⟨gb, 0, none⟩) m d'], .slice QA rl QC, .agg #[.int .i64 sq, .int .i64 bt, .int .i64 fi, .int .i64 la, .int .i64 (Wn : Nat)], .int .i64 (D : Nat)] W fun e w' => e = .returned (.bool (grB cp m us lg (ceilV Wn K : Nat) (moreK K Wn D))) ∧ Below W.heap.size W w' from fun W hW sq bt fi la Wn D h1 h2 => by
    rw [hcp, hus, hlg]
    have e1 := hrl; have e2 := hql; subst e1
    have h := refGrants_at s A c R f K B mk d (some ⟨gb, 0, none⟩) m d' F QA QC Q W sq bt fi la Wn D h1 h2 (by omega) (HCF.out.1.next hW) HCF.out.2.1 (by have := HCF.out.2.2.1; omega) (HTF.out.next hW) (by omega) (HQF.out.next hW)
    rw [e2] at h
    exact h)
  have HFR := Lib.hid (show us + fr = m by rw [hus, hfr]; unfold usN; have := cntP_le (owB F (-1)) m; omega)
  have HUS := Lib.hid hus
  have HFRE := Lib.hid hfr
  have HLG := Lib.hid hlg
  have HCP := Lib.hid hcp
  have HQE := Lib.hid hQ
  have HQL := Lib.hid hql
  have HRL := Lib.hid hrl
  have HVE := Lib.hid hV2
  have HCE := Lib.hid hCB
  clear hcf hsp hqa hG hmk hrl hQ hql hV2 hCB hb2 hoA hoT hvo hall halr hcov hcp hus hlg hfr HBU2 HDK hz HL HD0
  go_upto_region 3 with fail
  rw [← HCE.out, ← HVE.out]
  go_cut [45] (fun q wx => q = .bool false ∧ Below V2.heap.size V2 wx)
  case first =>
    have HBW := Lib.hid (Below.refl V2.heap.size V2)
    have HB0 : Hid (Below V2.heap.size V2 V2.drew) := Lib.hid HBW.out.drew
    have BC0 := HBC.out.next HBW.out
    have BS0 := HBS.out.next HBW.out
    have BC : Blk V2.drew CB 27 #[.string s, .slice A rl c, .int .i64 f] := BC0
    have BS : Blk V2.drew (CB + 1) 31 #[.int .i64 K, .slice B mk d, .slice (some ⟨gb, 0, none⟩) m d'] := BS0
    have lc : CB < V2.drew.heap.size := BC.lt
    have ls : CB + 1 < V2.drew.heap.size := BS.lt
    have hc : Below V2.drew.heap.size V2.drew V2.drew := Below.refl _ _
    have p0 : V2.drew.cell? ⟨CB, 0, none⟩ = some (.string s) := BC.cell 0
    have p1 : V2.drew.cell? ⟨CB, 1, none⟩ = some (.slice A rl c) := BC.cell 1
    have p2 : V2.drew.cell? ⟨CB, 2, none⟩ = some (.int .i64 f) := BC.cell 2
    have p3 : V2.drew.cell? ⟨CB + 1, 0, none⟩ = some (.int .i64 K) := BS.cell 0
    have p4 : V2.drew.cell? ⟨CB + 1, 1, none⟩ = some (.slice B mk d) := BS.cell 1
    have p5 : V2.drew.cell? ⟨CB + 1, 2, none⟩ = some (.slice (some ⟨gb, 0, none⟩) m d') := BS.cell 2
    go_region_held3 (fun w' => w'.cell? ⟨CB, 0, none⟩ = some (.string s) ∧ w'.cell? ⟨CB, 1, none⟩ = some (.slice A rl c) ∧ w'.cell? ⟨CB, 2, none⟩ = some (.int .i64 f) ∧ w'.cell? ⟨CB + 1, 0, none⟩ = some (.int .i64 K) ∧ w'.cell? ⟨CB + 1, 1, none⟩ = some (.slice B mk d) ∧ w'.cell? ⟨CB + 1, 2, none⟩ = some (.slice (some ⟨gb, 0, none⟩) m d'))
      (first | (with_reducible exact ⟨p0, p1, p2, p3, p4, p5⟩) | (with_reducible exact ⟨(hc.cell (p := ⟨CB, 0, none⟩) lc).trans p0, (hc.cell (p := ⟨CB, 1, none⟩) lc).trans p1, (hc.cell (p := ⟨CB, 2, none⟩) lc).trans p2, (hc.cell (p := ⟨CB + 1, 0, none⟩) ls).trans p3, (hc.cell (p := ⟨CB + 1, 1, none⟩) ls).trans p4, (hc.cell (p := ⟨CB + 1, 2, none⟩) ls).trans p5⟩))
      (first
        | (go_at_call 8; refine (N1.out _ (HB0.out.trans (Below.mono hc HB0.out.size))).mono ?_; rintro e wn ⟨rfl, hb⟩; replace hc : Below V2.drew.heap.size V2.drew wn := hc.trans (Below.mono hb hc.size))
        | (go_at_call 9; refine (N2.out _ (HB0.out.trans (Below.mono hc HB0.out.size))).mono ?_; rintro e wn ⟨rfl, hb⟩; replace hc : Below V2.drew.heap.size V2.drew wn := hc.trans (Below.mono hb hc.size))
        | (go_at_call 10; refine (H1.out _ (HB0.out.trans (Below.mono hc HB0.out.size))).mono ?_; rintro e wn ⟨rfl, hb⟩; replace hc : Below V2.drew.heap.size V2.drew wn := hc.trans (Below.mono hb hc.size))
        | (go_at_call 11; refine (H2.out _ (HB0.out.trans (Below.mono hc HB0.out.size))).mono ?_; rintro e wn ⟨rfl, hb⟩; replace hc : Below V2.drew.heap.size V2.drew wn := hc.trans (Below.mono hb hc.size))
      )
    all_goals
      go_wp2
      go_meet
      exact ⟨rfl, Below.trans (Below.refl V2.heap.size V2).drew hc⟩
  case rest =>
    obtain ⟨rfl, hb⟩ := hcut
    have HB1 := Lib.hid hb
    clear hb
    obtain ⟨i0, hi0, hz0, hz1, hz2⟩ := info_parts inc_info
    have hFL : Q.flatten = (qOf I).flatten := by rw [HQE.out]; exact qN_flat (by rw [← HRL.out]; omega) (allP_belts HALL.out)
    have hfl17 : Q.flatten.length ≤ 17 := by rw [hFL, qOf_total (allP_belts HALL.out)]; exact allP_len HALL.out
    have HIN := Lib.hid (show ∀ i ∈ Q.flatten, ∃ Wn : Nat, i.wo = Wn ∧ Wn ≤ 16384 from fun i hi => by
      rw [hFL] at hi
      obtain ⟨t, ht⟩ := List.mem_iff_getElem?.1 ((flat_memV HALL.out).1 hi)
      obtain ⟨⟨_, _, _, _, Wn, hwn, _, hcnt⟩, _⟩ := HALL.out t i ht
      refine ⟨Wn, hwn, ?_⟩
      have h1 := ceilV_cover Wn K
      have h2 := cntO_le F i.sq m
      have h3 : 2 ^ K ≤ 16 := by rcases (by omega : K = 3 ∨ K = 4) with rfl | rfl <;> decide
      have h4 : ceilV Wn K * 2 ^ K ≤ 10 * 16 := Nat.mul_le_mul (by omega) h3
      omega)
    obtain ⟨n9, hn9⟩ : ∃ x : IncR, x = ⟨99, 0, -1, -1, 0⟩ := ⟨_, rfl⟩
    have hmn := fun W => mod_any n 48 (by decide) (by decide) n0 n1 W
    obtain ⟨dn, hdn⟩ : ∃ dn : Nat, (dn : Int) = n % 48 := ⟨(n % 48).toNat, by have := Int.emod_nonneg n (show (48 : Int) ≠ 0 by decide); omega⟩
    have hdn48 : (dn : Int) < 48 := by rw [hdn]; exact Int.emod_lt_of_pos _ (by decide)
    rw [← hdn] at hmn
    obtain ⟨dd, hdd⟩ : ∃ x : Nat, x = 1 + dn := ⟨_, rfl⟩
    have hadd : IntKind.i64.wrap (1 + (dn : Int)) = (dd : Int) := by rw [IntWalk.i64_in _ (by omega)]; omega
    have HDD := Lib.hid (show dd ≤ 48 by omega)
    obtain ⟨W3, hW3⟩ : ∃ W, W = wc.alloc (.cells #[.int .i64 99, .int .i64 0, .int .i64 (-1), .int .i64 (-1), .int .i64 0] 38) := ⟨_, rfl⟩
    have HB3 := Lib.hid (show Below V2.heap.size V2 W3 by rw [hW3]; exact HB1.out.alloc HB1.out.size _)
    have HR0 := Lib.hid (show W3.ownsRow wc.heap.size 38 5 (.slice (some ⟨wc.heap.size, 0, none⟩) 1 1) (n9 :: (Q.take 0).flatten).length (incCells (n9 :: (Q.take 0).flatten)) by
      rw [hW3, hn9]
      exact ⟨rfl, .inr ⟨_, 1, _, rfl, Nat.le_refl _, heap_alloc_new wc _, Nat.le_refl _, by simp [maxLen], rfl, rfl⟩⟩)
    have HN9 := Lib.hid hn9
    have HW3 := Lib.hid hW3
    have hwz : V2.heap.size ≤ wc.heap.size := HB1.out.size
    have hz3 : wc.heap.size < W3.heap.size := by rw [hW3]; simp
    have hQm := HQF.out.2.1
    have hQm1 := HQF.out.1
    simp only [maxLen] at hQm
    rw [HQL.out] at hQm1
    clear hW3 hdn hFL hdd hn9
    go_wp2_with fail
    rw [← HW3.out]
    go_loopw [11, 50] (fun v i wr => ∃ t : Nat, t ≤ rl ∧ i = .int .i64 t ∧ wr.ownsRow wc.heap.size 38 5 v (n9 :: (Q.take t).flatten).length (incCells (n9 :: (Q.take t).flatten)) ∧ Below V2.heap.size V2 wr ∧ wc.heap.size ≤ wr.heap.size) (fun _ i _ => rl - (intOf i).toNat)
    case atStart => exact ⟨0, by omega, rfl, HR0.out, HB3.out, by omega⟩
    case round =>
      obtain ⟨t, ht, rfl, hr, hb, hsz⟩ := hrel
      have HR := Lib.hid hr
      have HB := Lib.hid hb
      clear hr hb
      by_cases hlt : t < rl
      · have hlt2 : 0 ≤ (t : Int) ∧ (t : Int) < rl := by omega
        obtain ⟨q, hq⟩ := nth_of (show t < Q.length by rw [HQL.out]; exact hlt)
        obtain ⟨b, o, Ai, ci, rfl, hP, _, c0', hLq⟩ := HQF.out.at_ hq
        have c0 := (HB.out.cell (p := ⟨b, o + t, none⟩) hP).trans c0'
        have HLQ := Lib.hid ((hLq.lt).next HB.out)
        have HN := Lib.hid (show n9 :: (Q.take (t + 1)).flatten = (n9 :: (Q.take t).flatten) ++ q by rw [flat_next hq]; rfl)
        have hfl := flat_len Q (t + 1)
        rw [flat_next hq, List.length_append] at hfl
        obtain ⟨nn, hnn⟩ : ∃ x, x = (n9 :: (Q.take t).flatten).length := ⟨_, rfl⟩
        have hnn2 : nn ≤ (Q.take t).flatten.length + 1 := by rw [hnn]; exact Nat.le_refl _
        rw [← hnn] at HR
        have HNN := Lib.hid hnn
        clear hq hP hLq c0' hnn
        rcases Ai with _ | ad
        · have hcz := HLQ.out.2.2.1 rfl
          have hl0 := HLQ.out.1
          have hI : q = [] := List.length_eq_zero_iff.1 (by omega)
          subst hI hcz
          clear hl0
          go_wp2_with (at_builtin; refine wpList_append_own_none rfl _ _ 39 rfl wc.heap.size 38 i0 5 Tryd.underlying39 hi0 _ nn _ rfl HR.out rfl ?_)
          go_wp2
          refine ⟨⟨t + 1, by omega, by go_num, ?_, HB.out, hsz⟩, by simp [intOf]; omega⟩
          rw [HN.out, List.append_nil, ← HNN.out]
          exact HR.out
        · have hcs : ∀ (j : Nat) (u : Value), (incCells q)[j]? = some u → wr.cell? (ad.add j) = some u := by
            intro j u hu
            have hj := get_lt hu
            rw [incCells_length] at hj
            obtain ⟨b, o, e, _⟩ := HLQ.out.2.2.2 (by omega)
            injection e with e
            subst e
            exact HLQ.out.cells j u hu
          have HC := Lib.hid hcs
          have HLN := Lib.hid (incCells_length q)
          have HM1 := Lib.hid (show nn + q.length ≤ maxLen by simp only [maxLen]; omega)
          have HM2 := Lib.hid (show (nn + q.length) * 40 ≤ 140737488355328 by omega)
          have HBS2 := Lib.hid hsz
          clear hcs
          go_wp2_with (at_builtin; refine wpList_append_own _ rfl _ _ 39 rfl wc.heap.size 38 i0 _ 5 40 Tryd.underlying39 hi0 hz0 hz1 hz2 rfl (by decide) _ nn _ rfl HR.out ad q.length ci (incCells q) rfl HLN.out HC.out (incCells_one q) HM1.out HM2.out HBS2.out ?_)
          intro v1 w1 hown hg _
          have HO := Lib.hid hown
          have HBN : Hid (Below V2.heap.size V2 w1) := Lib.hid (HB.out.grown hg HB.out.size (fun x hx => Nat.le_trans hwz (row_blk HR.out x hx)))
          have HSN := Lib.hid (Nat.le_trans hsz hg.size)
          clear hg hown
          go_wp2
          refine ⟨⟨t + 1, by omega, by go_num, ?_, HBN.out, HSN.out⟩, by simp [intOf]; omega⟩
          rw [HN.out, List.length_append, incCells_append, ← HNN.out]
          exact HO.out
      · have hlt2 : ¬ (t : Int) < rl := by omega
        have hte : t = rl := by omega
        rw [hte, ← HQL.out, List.take_length] at HR
        clear hte
        obtain ⟨LA, LC, hv11, hla⟩ := larr_of HR.out
        subst hv11
        obtain ⟨ll, hll⟩ : ∃ x, x = (n9 :: Q.flatten).length := ⟨_, rfl⟩
        have hll2 : ll ≤ 18 := by rw [hll, List.length_cons]; omega
        have HLA := Lib.hid hla.lt
        rw [← hll]
        have HLL := Lib.hid hll
        have hlc1 := hla.1
        have hlc2 := hla.2.1
        simp only [maxLen] at hlc2
        rw [← hll] at hlc1
        obtain ⟨P, hP⟩ : ∃ P, P = wr := ⟨_, rfl⟩
        subst hP
        clear hla hll
        go_wp2_with fail
        go_loopw [60] (fun i wq => ∃ t2 : Nat, t2 ≤ ll ∧ i = .int .i64 t2 ∧ Below P.heap.size P wq) (fun i _ => ll - (intOf i).toNat)
        case atStart => exact ⟨0, by omega, rfl, Below.refl _ _⟩
        case round =>
          obtain ⟨t2, ht2, rfl, hb⟩ := hrel
          have HBQ := Lib.hid hb
          clear hb
          by_cases hlt3 : t2 < ll
          · have hlt4 : 0 ≤ (t2 : Int) ∧ (t2 : Int) < ll := by omega
            obtain ⟨i, hi⟩ := nth_of (show t2 < (n9 :: Q.flatten).length by rw [← HLL.out]; exact hlt3)
            obtain ⟨bl, ol, rfl, _, zl, d0, d1, d2, d3, d4⟩ := (HLA.out.next HBQ.out).at_ hi
            obtain ⟨Wn, hwn, hwn2⟩ : ∃ Wn : Nat, i.wo = Wn ∧ Wn ≤ 16384 := by
              rcases List.mem_cons.1 (List.mem_iff_getElem?.2 ⟨t2, hi⟩) with e | h
              · rw [e, HN9.out]; exact ⟨0, rfl, by omega⟩
              · exact HIN.out i h
            rw [hwn] at d4
            have HWN := Lib.hid hwn2
            generalize i.sq = y0 at *
            generalize i.bt = y1 at *
            generalize i.fi = y2 at *
            generalize i.la = y3 at *
            obtain ⟨X, hX⟩ : ∃ X, X = wr.alloc (.cells #[.int .i64 y0, .int .i64 y1, .int .i64 y2, .int .i64 y3, .int .i64 (Wn : Nat)] 38) := ⟨_, rfl⟩
            obtain ⟨BX, hBX⟩ : ∃ b, b = wr.heap.size := ⟨_, rfl⟩
            have hbx : Below wr.heap.size wr X := by rw [hX]; exact (Below.refl _ _).alloc (Nat.le_refl _) _
            have hbi := (show Blk X BX 38 #[.int .i64 y0, .int .i64 y1, .int .i64 y2, .int .i64 y3, .int .i64 (Wn : Nat)] by rw [hX, hBX]; exact Blk.new _ _ _)
            obtain ⟨W4, hW4⟩ : ∃ W, W = X.alloc (.cells #[.int .i64 1, .int .i64 (dd : Int), .int .i64 48] 3) := ⟨_, rfl⟩
            have hb4 : Below X.heap.size X W4 := by rw [hW4]; exact (Below.refl _ _).alloc (Nat.le_refl _) _
            have HBX := Lib.hid (hbi.next hb4)
            have HB4 := Lib.hid (HBQ.out.trans ((hbx.trans (hb4.mono hbx.size)).mono HBQ.out.size))
            have h3 := (show Blk W4 X.heap.size 3 #[.int .i64 1, .int .i64 (dd : Int), .int .i64 48] by rw [hW4]; exact Blk.new _ _ _)
            have hxs : X.heap.size = BX + 1 := by rw [hX, hBX]; simp
            have HTH := Lib.hid (show ∀ t3, t3 < 3 → ∃ D : Nat, D ≤ 48 ∧ W4.cell? ⟨BX + 1, t3, none⟩ = some (.int .i64 (D : Nat)) from fun t3 ht3 => by
              rw [← hxs]
              rcases (by omega : t3 = 0 ∨ t3 = 1 ∨ t3 = 2) with rfl | rfl | rfl
              · exact ⟨1, by omega, h3.cell 0⟩
              · exact ⟨dd, HDD.out, h3.cell 1⟩
              · exact ⟨48, by omega, h3.cell 2⟩)
            have HXE := Lib.hid hX
            have HBXE := Lib.hid hBX
            have HW4 := Lib.hid hW4
            clear hi hwn hwn2 hX hBX hbx hbi hb4 h3 hxs hW4
            go_wp2_with fail
            refine (hmn _).mono ?_
            rintro e w1 ⟨rfl, rfl⟩
            go_wp2_with fail
            rw [← HXE.out, ← HBXE.out, ← HW4.out]
            go_loopw [69] (fun i wq => ∃ t3 : Nat, t3 ≤ 3 ∧ i = .int .i64 t3 ∧ Below W4.heap.size W4 wq) (fun i _ => 3 - (intOf i).toNat)
            case atStart => exact ⟨0, by omega, rfl, Below.refl _ _⟩
            case round =>
              obtain ⟨t3, ht3, rfl, hb⟩ := hrel
              have HBL := Lib.hid hb
              clear hb
              by_cases hlt5 : t3 < 3
              · have hlt6 : 0 ≤ (t3 : Int) ∧ (t3 : Int) < 3 := by omega
                obtain ⟨D, hD48, c0'⟩ := HTH.out t3 hlt5
                have c0 := (HBL.out.cell (cell_lt c0')).trans c0'
                obtain ⟨W5, hW5⟩ : ∃ W, W = wr := ⟨_, rfl⟩
                subst hW5
                clear c0'
                go_upto_region 17 with fail
                go_cut [85] (fun q wx => q = .bool false ∧ Below W5.heap.size W5 wx)
                case first =>
                  have HBW := Lib.hid (HB.out.trans ((HB4.out.trans (HBL.out.mono HB4.out.size)).mono HB.out.size))
                  have HB0 : Hid (Below V2.heap.size V2 W5.drew) := Lib.hid HBW.out.drew
                  have BC0 := HBC.out.next HBW.out
                  have BS0 := HBS.out.next HBW.out
                  have BC : Blk W5.drew CB 27 #[.string s, .slice A rl c, .int .i64 f] := BC0
                  have BS : Blk W5.drew (CB + 1) 31 #[.int .i64 K, .slice B mk d, .slice (some ⟨gb, 0, none⟩) m d'] := BS0
                  have lc : CB < W5.drew.heap.size := BC.lt
                  have ls : CB + 1 < W5.drew.heap.size := BS.lt
                  have hc : Below W5.drew.heap.size W5.drew W5.drew := Below.refl _ _
                  have BI0 := HBX.out.next HBL.out
                  have BI : Blk W5.drew BX 38 #[.int .i64 y0, .int .i64 y1, .int .i64 y2, .int .i64 y3, .int .i64 (Wn : Nat)] := BI0
                  have li := BI.lt
                  have p0 : W5.drew.cell? ⟨CB, 0, none⟩ = some (.string s) := BC.cell 0
                  have p1 : W5.drew.cell? ⟨CB, 1, none⟩ = some (.slice A rl c) := BC.cell 1
                  have p2 : W5.drew.cell? ⟨CB, 2, none⟩ = some (.int .i64 f) := BC.cell 2
                  have p3 : W5.drew.cell? ⟨CB + 1, 0, none⟩ = some (.int .i64 K) := BS.cell 0
                  have p4 : W5.drew.cell? ⟨CB + 1, 1, none⟩ = some (.slice B mk d) := BS.cell 1
                  have p5 : W5.drew.cell? ⟨CB + 1, 2, none⟩ = some (.slice (some ⟨gb, 0, none⟩) m d') := BS.cell 2
                  have p6 : W5.drew.cell? ⟨BX, 0, none⟩ = some (.int .i64 y0) := BI.cell 0
                  have p7 : W5.drew.cell? ⟨BX, 1, none⟩ = some (.int .i64 y1) := BI.cell 1
                  have p8 : W5.drew.cell? ⟨BX, 2, none⟩ = some (.int .i64 y2) := BI.cell 2
                  have p9 : W5.drew.cell? ⟨BX, 3, none⟩ = some (.int .i64 y3) := BI.cell 3
                  have p10 : W5.drew.cell? ⟨BX, 4, none⟩ = some (.int .i64 (Wn : Nat)) := BI.cell 4
                  go_region_held3 (fun w' => w'.cell? ⟨CB, 0, none⟩ = some (.string s) ∧ w'.cell? ⟨CB, 1, none⟩ = some (.slice A rl c) ∧ w'.cell? ⟨CB, 2, none⟩ = some (.int .i64 f) ∧ w'.cell? ⟨CB + 1, 0, none⟩ = some (.int .i64 K) ∧ w'.cell? ⟨CB + 1, 1, none⟩ = some (.slice B mk d) ∧ w'.cell? ⟨CB + 1, 2, none⟩ = some (.slice (some ⟨gb, 0, none⟩) m d') ∧ w'.cell? ⟨BX, 0, none⟩ = some (.int .i64 y0) ∧ w'.cell? ⟨BX, 1, none⟩ = some (.int .i64 y1) ∧ w'.cell? ⟨BX, 2, none⟩ = some (.int .i64 y2) ∧ w'.cell? ⟨BX, 3, none⟩ = some (.int .i64 y3) ∧ w'.cell? ⟨BX, 4, none⟩ = some (.int .i64 (Wn : Nat)))
                    (first | (with_reducible exact ⟨p0, p1, p2, p3, p4, p5, p6, p7, p8, p9, p10⟩) | (with_reducible exact ⟨(hc.cell (p := ⟨CB, 0, none⟩) lc).trans p0, (hc.cell (p := ⟨CB, 1, none⟩) lc).trans p1, (hc.cell (p := ⟨CB, 2, none⟩) lc).trans p2, (hc.cell (p := ⟨CB + 1, 0, none⟩) ls).trans p3, (hc.cell (p := ⟨CB + 1, 1, none⟩) ls).trans p4, (hc.cell (p := ⟨CB + 1, 2, none⟩) ls).trans p5, (hc.cell (p := ⟨BX, 0, none⟩) li).trans p6, (hc.cell (p := ⟨BX, 1, none⟩) li).trans p7, (hc.cell (p := ⟨BX, 2, none⟩) li).trans p8, (hc.cell (p := ⟨BX, 3, none⟩) li).trans p9, (hc.cell (p := ⟨BX, 4, none⟩) li).trans p10⟩))
                    (first
                      | (go_at_call 13; refine (G1.out _ (HB0.out.trans (Below.mono hc HB0.out.size)) y0 y1 y2 y3 Wn D HWN.out hD48).mono ?_; rintro e wn ⟨rfl, hb⟩; replace hc : Below W5.drew.heap.size W5.drew wn := hc.trans (Below.mono hb hc.size))
                      | (go_at_call 14; refine (G2.out _ (HB0.out.trans (Below.mono hc HB0.out.size)) y0 y1 y2 y3 Wn D HWN.out hD48).mono ?_; rintro e wn ⟨rfl, hb⟩; replace hc : Below W5.drew.heap.size W5.drew wn := hc.trans (Below.mono hb hc.size))
                    )
                  all_goals
                    go_wp2
                    go_meet
                    exact ⟨rfl, Below.trans (Below.refl W5.heap.size W5).drew hc⟩
                case rest =>
                  obtain ⟨rfl, hb⟩ := hcut
                  have HBN := Lib.hid (below_next HBL.out (Nat.le_refl _) hb)
                  clear hb
                  go_wp2_with fail
                  exact ⟨⟨t3 + 1, by omega, by go_num, HBN.out⟩, by simp [intOf]; omega⟩
              · have hlt6 : ¬ (t3 : Int) < 3 := by omega
                have HBE := Lib.hid (HB4.out.trans (HBL.out.mono HB4.out.size))
                go_wp2_with fail
                exact ⟨⟨t2 + 1, by omega, by go_num, HBE.out⟩, by simp [intOf]; omega⟩
          · have hlt4 : ¬ (t2 : Int) < ll := by omega
            have HBE := Lib.hid (below_next (below_next HV2.out (Nat.le_refl _) HB.out) (Nat.le_refl _) HBQ.out)
            go_wp2_with fail
            refine (awake16_any _ (Db.next HDB.out (HB.out.trans (HBQ.out.mono HB.out.size)))).mono ?_
            rintro e w8 ⟨rfl, hb⟩
            have HBF := Lib.hid (below_next HBE.out (Nat.le_refl _) hb)
            clear hb
            go_wp2
            go_ret
            exact ⟨rfl, HBF.out⟩
end Go.Proofs.YtmhbbjbbckdlbaaDoor
