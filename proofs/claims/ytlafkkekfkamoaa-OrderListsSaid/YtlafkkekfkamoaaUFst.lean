/-
  The walk of OrderFirst.
-/
import Derived.Test.YtlafkkekfkamoaaUOrd
namespace Go.Proofs.Ytlafkkekfkamoaa
open Go.RowKit
set_option maxRecDepth 100000
set_option linter.unusedVariables false

theorem sarr_one (W : World) (x : Int) : SArr (W.alloc (.cells #[.int .i64 x] 3)) (Lt (W.alloc (.cells #[.int .i64 x] 3)).heap.size) (some ⟨W.heap.size, 0, none⟩) 1 [x] := by
  refine ⟨by simp, by simp [maxLen], (fun e => by cases e), fun _ => ⟨_, 0, rfl, by show _ < _; simp, fun j s hj => ?_⟩⟩
  have := get_lt hj
  simp at this
  subst this
  simp at hj
  subst hj
  exact (Blk.new W _ _).cell 0
theorem firstO_at (A : Option Addr) (c n : Nat) (Q : List (List IncR)) (F : List IncR) (w : World) (hn : n = Q.length) (hF : F = Q.flatten) (hQ : QArr w (Lt w.heap.size) A c Q) (hf : F.length ≤ 4096) : Calls Try.prog 18 #[.slice A n c] w (GivesI F.head? w) := by
  subst hn hF
  exact firstO_any A c Q w hQ hf
theorem prefixO_at (A : Option Addr) (c n : Nat) (Q : List (List IncR)) (F : List IncR) (B : Option Addr) (d k : Nat) (S : List Int) (w : World) (hn : n = Q.length) (hF : F = Q.flatten) (hk : k = S.length) (hQ : QArr w (Lt w.heap.size) A c Q) (hS : SArr w (Lt w.heap.size) B d S) (hf : F.length ≤ 4096) (hs4 : S.length ≤ 1048576) :
    Calls Try.prog 22 #[.slice A n c, .slice B k d] w (IffOf (PreP F S) w) := by
  subst hn hF hk
  exact prefixO_any A c Q B d S w hQ hS hf hs4

set_option maxHeartbeats 8000000 in
theorem walkFirst (Al : Option Addr) (nl cl : Nat) (w : World) (hL : ListP w w.heap.size Al nl cl) :
    Calls Try.prog 6 #[.slice Al nl cl] w fun e w' => e = .returned (.bool true) ∧ Below w.heap.size w w' := by
  have HL := Lib.hid hL
  clear hL
  go_enter Try.func6, Try.ntmps6
  go_wp2_with fail
  refine (deck_any Al nl cl w HL.out).mono ?_
  rintro e U2 ⟨rfl, hd, hb, hz⟩
  have HDK := Lib.hid hd
  have HBU2 := Lib.hid hb
  clear hd hb
  go_wp2_with fail
  refine (spaceY_any w.heap.size U2 HDK.out).mono ?_
  rintro e U3 ⟨K, m, B, d, gb, d', wd, F, L, rfl, kk0, kk1, m0, m1, hoA, hoT, ⟨hvp, how, hu⟩, ⟨_, I, BI', hBI, hLR, hAll, _, hcov⟩, hG⟩
  have HBU3 := Lib.hid (below_turn HBU2.out hG (by omega))
  obtain ⟨mk, hmk⟩ : ∃ mk, mk = m * 2 ^ K := ⟨_, rfl⟩
  rw [← hmk] at hoA hvp ⊢
  obtain ⟨V, hV⟩ : ∃ V, V = U3.alloc (.cells #[.int .i64 K, .slice B mk d, .slice (some ⟨gb, 0, none⟩) m d'] 36) := ⟨_, rfl⟩
  have hbv : Below U3.heap.size U3 V := by rw [hV]; exact (Below.refl _ _).alloc (Nat.le_refl _) _
  obtain ⟨SB, hSB⟩ : ∃ b, b = U3.heap.size := ⟨_, rfl⟩
  have BY := Lib.hid (show Blk V SB 36 #[.int .i64 K, .slice B mk d, .slice (some ⟨gb, 0, none⟩) m d'] by rw [hV, hSB]; exact Blk.new _ _ _)
  have HBV := Lib.hid (below_next HBU3.out (Nat.le_refl _) hbv)
  have HST := Lib.hid (hoT.tab.next hbv)
  obtain ⟨LA, LC, hLe, hla⟩ := larr_of hLR.1
  subst hLe
  have HLA := Lib.hid (hla.lt.next hbv)
  have hI17 := allP_len hAll
  have HALL := Lib.hid hAll
  obtain ⟨li, hli⟩ : ∃ x, x = I.length := ⟨_, rfl⟩
  rw [← hli] at hI17 ⊢
  have HLI := Lib.hid hli
  have HVV := Lib.hid hV
  have HSB := Lib.hid hSB
  clear hV hbv hG HBU2 HDK hz hoA hoT hmk hvp how hu hLR hAll hBI hli hcov hla hSB
  go_wp2_with fail
  rw [← HVV.out, ← HSB.out]
  refine (queue_at LA LC li I V HLA.out (allP_belts HALL.out) (by have := HLI.out; omega) HLI.out).mono ?_
  rintro e V1 ⟨v, rfl, hr, _, hb⟩
  obtain ⟨QA, QC, rfl, hqa⟩ := hr.qarr
  rw [qOf_len]
  have BY1 := Lib.hid (BY.out.next hb)
  have HB1 : Hid (Below w.heap.size w V1) := below_next HBV.out (Nat.le_refl _) hb
  have HST1 := Lib.hid (HST.out.next hb)
  have HLA1 := Lib.hid (HLA.out.next hb)
  have HQ1 := Lib.hid hqa.lt
  have HTOT := Lib.hid (qOf_total (allP_belts HALL.out))
  obtain ⟨FL, hFL⟩ : ∃ FL, FL = (qOf I).flatten := ⟨_, rfl⟩
  have HFL := Lib.hid hFL
  clear hr hqa hb HVV BY HST HLA HL hFL
  go_wp2_with fail
  refine (firstO_at QA QC 3 (qOf I) FL V1 rfl HFL.out HQ1.out (by rw [HFL.out, HTOT.out, ← HLI.out]; omega)).mono ?_
  rintro e V2 ⟨rfl, hb⟩
  have HFI := Lib.hid (show ∀ i ∈ FL, i ∈ I by rw [HFL.out]; exact fun i hi => (flat_mem HALL.out).1 hi)
  have HIF := Lib.hid (show ∀ i ∈ I, i ∈ FL by rw [HFL.out]; exact fun i hi => (flat_mem HALL.out).2 hi)
  have HASC := Lib.hid (show FL.Pairwise fun a b => stI a < stI b by rw [HFL.out]; exact flat_asc HALL.out)
  have hlf : FL.length = li := by rw [HFL.out, HTOT.out, ← HLI.out]
  have HB2 := Lib.hid (below_next HB1.out (Nat.le_refl _) hb)
  have HQ2 := Lib.hid (HQ1.out.next hb)
  have HLA2 := Lib.hid (HLA1.out.next hb)
  have HBY2 := Lib.hid (BY1.out.next hb)
  clear hb HB1 HQ1 HLA1 BY1 HST1
  rcases FL with _ | ⟨f, R⟩
  · have h0 : li = 0 := by rw [← hlf]; rfl
    subst h0
    clear hlf
    simp only [List.head?_nil, Option.getD_none, Option.isSome_none, inc0, IncR.v]
    go_wp2_with fail
    obtain ⟨W, hW⟩ : ∃ W, W = V2.alloc (.cells #[.int .i64 0, .int .i64 0, .int .i64 0, .int .i64 0, .int .i64 0] 24) := ⟨_, rfl⟩
    rw [← hW]
    have hbw : Below V2.heap.size V2 W := by rw [hW]; exact (Below.refl _ _).alloc (Nat.le_refl _) _
    refine (prefixO_at QA QC 3 (qOf I) [] none 0 0 [] W rfl HFL.out rfl (HQ2.out.next hbw) (SArr.nil _ _) (by simp) (by simp)).mono ?_
    rintro e W3 ⟨b, rfl, hbp, hb⟩
    have hbt : b = true := hbp.2 (pre_nil _)
    subst hbt
    have HB3 := Lib.hid (below_next (below_next HB2.out (Nat.le_refl _) hbw) (Nat.le_refl _) hb)
    clear hb hbp hbw hW
    go_wp2_with fail
    refine (awake15_any _).mono ?_
    rintro e w2 ⟨rfl, hb⟩
    have HB4 := Lib.hid (below_next HB3.out (Nat.le_refl _) hb)
    clear hb
    go_wp2
    go_ret
    exact ⟨rfl, HB4.out⟩
  · have hlz : 0 < li := by rw [← hlf, List.length_cons]; omega
    simp only [List.head?_cons, Option.getD_some, Option.isSome_some, IncR.v]
    obtain ⟨W, hW⟩ : ∃ W, W = V2.alloc (.cells #[.int .i64 f.sq, .int .i64 f.bt, .int .i64 f.fi, .int .i64 f.la, .int .i64 f.wo] 24) := ⟨_, rfl⟩
    have hbw : Below V2.heap.size V2 W := by rw [hW]; exact (Below.refl _ _).alloc (Nat.le_refl _) _
    obtain ⟨FB, hFB⟩ : ∃ FB, FB = V2.heap.size := ⟨_, rfl⟩
    have HFB := Lib.hid (show Blk W FB 24 #[.int .i64 f.sq, .int .i64 f.bt, .int .i64 f.fi, .int .i64 f.la, .int .i64 f.wo] by rw [hW, hFB]; exact Blk.new _ _ _)
    have HBW := Lib.hid (below_next HB2.out (Nat.le_refl _) hbw)
    have HQW := Lib.hid (HQ2.out.next hbw)
    have HLW := Lib.hid (HLA2.out.next hbw)
    have HWE := Lib.hid hW
    have HFE := Lib.hid hFB
    have HLF := Lib.hid hlf
    clear hbw hW hFB hlf
    go_wp2_with fail
    rw [← HWE.out, ← HFE.out]
    go_loopw [37] (fun i wr => ∃ t : Nat, t ≤ li ∧ i = .int .i64 t ∧ Below W.heap.size W wr) (fun i _ => li - (intOf i).toNat)
    case atStart => exact ⟨0, by omega, rfl, Below.refl _ _⟩
    case round =>
      obtain ⟨t, ht, rfl, hb⟩ := hrel
      have HB := Lib.hid hb
      clear hb
      by_cases hlt : t < li
      · have hlt2 : 0 ≤ (t : Int) ∧ (t : Int) < li := by omega
        obtain ⟨i, hi⟩ := nth_of (show t < I.length by rw [← HLI.out]; exact hlt)
        obtain ⟨bl, ol, rfl, _, zl, d0, d1, d2, d3, d4⟩ := (HLW.out.next HB.out).at_ hi
        have hmi : i ∈ I := List.mem_iff_getElem?.2 ⟨t, hi⟩
        have hmf : f ∈ I := HFI.out f (by simp)
        have hsi := made_stamp HALL.out hmi
        have hsf := made_stamp HALL.out hmf
        have hlt3 : f ≠ i → stI f < stI i := fun hne => by
          rcases List.mem_cons.1 (HIF.out i hmi) with e | h
          · exact absurd e.symm hne
          · exact (List.pairwise_cons.1 HASC.out).1 i h
        have HPI := Lib.hid (show PreP (f :: R) [i.sq] ↔ eqI i f = true by
          rw [pre_one, eqI_iff]
          exact ⟨fun e => made_inj HALL.out hmi hmf e.symm, fun e => by rw [e]⟩)
        have hne := neq_inc i f
        have hee := eql_inc i f
        obtain ⟨q, hq⟩ : ∃ q, q = eqI i f := ⟨_, rfl⟩
        have HBE := Lib.hid (show q = false → decide (stampZ f.bt f.sq < stampZ i.bt i.sq) = true from fun e => by
          rw [hsi, hsf, decide_eq_true_iff]
          exact hlt3 fun h => by rw [hq, h, eqI_iff.2 rfl] at e; cases e)
        rw [← hq] at hne hee
        rw [← hq] at HPI
        obtain ⟨X, hX⟩ : ∃ X, X = wr.alloc (.cells #[.int .i64 i.sq, .int .i64 i.bt, .int .i64 i.fi, .int .i64 i.la, .int .i64 i.wo] 24) := ⟨_, rfl⟩
        have hbx : Below wr.heap.size wr X := by rw [hX]; exact (Below.refl _ _).alloc (Nat.le_refl _) _
        have BI := (show Blk X wr.heap.size 24 #[.int .i64 i.sq, .int .i64 i.bt, .int .i64 i.fi, .int .i64 i.la, .int .i64 i.wo] by rw [hX]; exact Blk.new _ _ _)
        have BF := (HFB.out.next HB.out).next hbx
        obtain ⟨BX, hBX⟩ : ∃ b, b = wr.heap.size := ⟨_, rfl⟩
        rw [← hBX] at BI
        have HBX := Lib.hid hBX
        have HXE := Lib.hid hX
        have HQX := Lib.hid ((HQW.out.next HB.out).next hbx)
        have HBB := Lib.hid (below_next HB.out (Nat.le_refl _) hbx)
        generalize i.sq = i0 at *
        generalize i.bt = i1 at *
        generalize i.fi = i2 at *
        generalize i.la = i3 at *
        generalize i.wo = i4 at *
        generalize f.sq = f0 at *
        generalize f.bt = f1 at *
        generalize f.fi = f2 at *
        generalize f.la = f3 at *
        generalize f.wo = f4 at *
        clear hi hmi hmf hsi hsf hlt3 hq hX hbx hBX
        go_wp2_with fail
        rw [← HXE.out, ← HBX.out]
        go_cut [60] (fun q wx => q = .bool false ∧ Below X.heap.size X wx)
        case first =>
          have zi : BX < X.drew.heap.size := BI.lt
          have zf : FB < X.drew.heap.size := BF.lt
          have p0 : X.drew.cell? ⟨BX, 0, none⟩ = some (.int .i64 i0) := BI.cell 0
          have p1 : X.drew.cell? ⟨BX, 1, none⟩ = some (.int .i64 i1) := BI.cell 1
          have p2 : X.drew.cell? ⟨BX, 2, none⟩ = some (.int .i64 i2) := BI.cell 2
          have p3 : X.drew.cell? ⟨BX, 3, none⟩ = some (.int .i64 i3) := BI.cell 3
          have p4 : X.drew.cell? ⟨BX, 4, none⟩ = some (.int .i64 i4) := BI.cell 4
          have q0 : X.drew.cell? ⟨FB, 0, none⟩ = some (.int .i64 f0) := BF.cell 0
          have q1 : X.drew.cell? ⟨FB, 1, none⟩ = some (.int .i64 f1) := BF.cell 1
          have q2 : X.drew.cell? ⟨FB, 2, none⟩ = some (.int .i64 f2) := BF.cell 2
          have q3 : X.drew.cell? ⟨FB, 3, none⟩ = some (.int .i64 f3) := BF.cell 3
          have q4 : X.drew.cell? ⟨FB, 4, none⟩ = some (.int .i64 f4) := BF.cell 4
          clear BI BF
          cases q with
          | true =>
            refine wp_region_held_drew (S := (fun w' => w'.cell? ⟨BX, 0, none⟩ = some (.int .i64 i0) ∧ w'.cell? ⟨BX, 1, none⟩ = some (.int .i64 i1) ∧ w'.cell? ⟨BX, 2, none⟩ = some (.int .i64 i2) ∧ w'.cell? ⟨BX, 3, none⟩ = some (.int .i64 i3) ∧ w'.cell? ⟨BX, 4, none⟩ = some (.int .i64 i4) ∧ w'.cell? ⟨FB, 0, none⟩ = some (.int .i64 f0) ∧ w'.cell? ⟨FB, 1, none⟩ = some (.int .i64 f1) ∧ w'.cell? ⟨FB, 2, none⟩ = some (.int .i64 f2) ∧ w'.cell? ⟨FB, 3, none⟩ = some (.int .i64 f3) ∧ w'.cell? ⟨FB, 4, none⟩ = some (.int .i64 f4))) (by kernel_rfl) ?_ (fun hHeld => ?_)
            · exact ⟨p0, p1, p2, p3, p4, q0, q1, q2, q3, q4⟩
            (refine wpAnyH_take (i := 0) (v := ?_) rfl (by kernel_rfl) (by kernel_rfl) (by kernel_rfl) (fun _ _ _ h => h) (Or.inl ⟨by rfl, ?_⟩) (by assumption) ?_; rotate_left 1; (focus (intro w' hSw; (try dsimp only at hSw); go_simp; (try with_reducible rfl); done)); try simp only [Act.put, List.setIfInBounds_toArray, List.set_cons_zero, List.set_cons_succ, List.getElem_toArray, List.getElem_cons_zero])
            (refine wpAnyH_take (i := 1) (v := ?_) rfl (by kernel_rfl) (by kernel_rfl) (by kernel_rfl) (fun _ _ _ h => h) (Or.inl ⟨by rfl, ?_⟩) (by assumption) ?_; rotate_left 1; (focus (intro w' hSw; (try dsimp only at hSw); go_simp; (try with_reducible rfl); done)); try simp only [Act.put, List.setIfInBounds_toArray, List.set_cons_zero, List.set_cons_succ, List.getElem_toArray, List.getElem_cons_zero, List.getElem_cons_succ])
            (refine wpAnyH_take (i := 2) (v := ?_) rfl (by kernel_rfl) (by kernel_rfl) (by kernel_rfl) (fun _ _ _ h => h) (Or.inl ⟨by rfl, ?_⟩) (by assumption) ?_; rotate_left 1; (focus (intro w' hSw; (try dsimp only at hSw); go_simp; (try with_reducible rfl); done)); try simp only [Act.put, List.setIfInBounds_toArray, List.set_cons_zero, List.set_cons_succ, List.getElem_toArray, List.getElem_cons_zero, List.getElem_cons_succ])
            (refine wpAnyH_take (i := 3) (v := ?_) rfl (by kernel_rfl) (by kernel_rfl) (by kernel_rfl) (fun _ _ _ h => h) (Or.inl ⟨by rfl, ?_⟩) (by assumption) ?_; rotate_left 1; (focus (intro w' hSw; (try dsimp only at hSw); go_simp; (try with_reducible rfl); done)); try simp only [Act.put, List.setIfInBounds_toArray, List.set_cons_zero, List.set_cons_succ, List.getElem_toArray, List.getElem_cons_zero, List.getElem_cons_succ])
            (refine wpAnyH_take (i := 4) (v := undef) rfl (by kernel_rfl) (by kernel_rfl) (by kernel_rfl) (fun _ _ _ h => h) (Or.inr ⟨by rfl, rfl⟩) (by assumption) ?_; try simp only [Act.put, List.setIfInBounds_toArray, List.set_cons_zero, List.set_cons_succ, List.getElem_toArray, List.getElem_cons_zero, List.getElem_cons_succ])
            (refine wpAnyH_take (i := 5) (v := undef) rfl (by kernel_rfl) (by kernel_rfl) (by kernel_rfl) (fun _ _ _ h => h) (Or.inr ⟨by rfl, rfl⟩) (by assumption) ?_; try simp only [Act.put, List.setIfInBounds_toArray, List.set_cons_zero, List.set_cons_succ, List.getElem_toArray, List.getElem_cons_zero, List.getElem_cons_succ])
            (refine wpAnyH_take (i := 6) (v := undef) rfl (by kernel_rfl) (by kernel_rfl) (by kernel_rfl) (fun _ _ _ h => h) (Or.inr ⟨by rfl, rfl⟩) (by assumption) ?_; try simp only [Act.put, List.setIfInBounds_toArray, List.set_cons_zero, List.set_cons_succ, List.getElem_toArray, List.getElem_cons_zero, List.getElem_cons_succ])
            (refine wpAnyH_take (i := 7) (v := undef) rfl (by kernel_rfl) (by kernel_rfl) (by kernel_rfl) (fun _ _ _ h => h) (Or.inr ⟨by rfl, rfl⟩) (by assumption) ?_; try simp only [Act.put, List.setIfInBounds_toArray, List.set_cons_zero, List.set_cons_succ, List.getElem_toArray, List.getElem_cons_zero, List.getElem_cons_succ])
            (refine wpAnyH_take (i := 8) (v := ?_) rfl (by kernel_rfl) (by kernel_rfl) (by kernel_rfl) (fun _ _ _ h => h) (Or.inl ⟨by rfl, ?_⟩) (by assumption) ?_; rotate_left 1; (focus (intro w' hSw; (try dsimp only at hSw); go_simp; (try with_reducible rfl); done)); try simp only [Act.put, List.setIfInBounds_toArray, List.set_cons_zero, List.set_cons_succ, List.getElem_toArray, List.getElem_cons_zero, List.getElem_cons_succ])
            (refine wpAnyH_take (i := 9) (v := ?_) rfl (by kernel_rfl) (by kernel_rfl) (by kernel_rfl) (fun _ _ _ h => h) (Or.inl ⟨by rfl, ?_⟩) (by assumption) ?_; rotate_left 1; (focus (intro w' hSw; (try dsimp only at hSw); go_simp; (try with_reducible rfl); done)); try simp only [Act.put, List.setIfInBounds_toArray, List.set_cons_zero, List.set_cons_succ, List.getElem_toArray, List.getElem_cons_zero, List.getElem_cons_succ])
            (refine wpAnyH_take (i := 10) (v := ?_) rfl (by kernel_rfl) (by kernel_rfl) (by kernel_rfl) (fun _ _ _ h => h) (Or.inl ⟨by rfl, ?_⟩) (by assumption) ?_; rotate_left 1; (focus (intro w' hSw; (try dsimp only at hSw); go_simp; (try with_reducible rfl); done)); try simp only [Act.put, List.setIfInBounds_toArray, List.set_cons_zero, List.set_cons_succ, List.getElem_toArray, List.getElem_cons_zero, List.getElem_cons_succ])
            (refine wpAnyH_take (i := 11) (v := ?_) rfl (by kernel_rfl) (by kernel_rfl) (by kernel_rfl) (fun _ _ _ h => h) (Or.inl ⟨by rfl, ?_⟩) (by assumption) ?_; rotate_left 1; (focus (intro w' hSw; (try dsimp only at hSw); go_simp; (try with_reducible rfl); done)); try simp only [Act.put, List.setIfInBounds_toArray, List.set_cons_zero, List.set_cons_succ, List.getElem_toArray, List.getElem_cons_zero, List.getElem_cons_succ])
            (refine wpAnyH_take (i := 12) (v := ?_) rfl (by kernel_rfl) (by kernel_rfl) (by kernel_rfl) (fun _ _ _ h => h) (Or.inl ⟨by rfl, ?_⟩) (by assumption) ?_; rotate_left 1; (focus (intro w' hSw; (try dsimp only at hSw); go_simp; (try with_reducible rfl); done)); try simp only [Act.put, List.setIfInBounds_toArray, List.set_cons_zero, List.set_cons_succ, List.getElem_toArray, List.getElem_cons_zero, List.getElem_cons_succ])
            (refine wpAnyH_take (i := 15) (v := ?_) rfl (by kernel_rfl) (by kernel_rfl) (by kernel_rfl) (fun _ _ _ h => h) (Or.inl ⟨by rfl, ?_⟩) (by assumption) ?_; rotate_left 1; (focus (intro w' hSw; (try dsimp only at hSw); go_simp; (try with_reducible rfl); done)); try simp only [Act.put, List.setIfInBounds_toArray, List.set_cons_zero, List.set_cons_succ, List.getElem_toArray, List.getElem_cons_zero, List.getElem_cons_succ])
            (refine wpAnyH_take (i := 16) (v := ?_) rfl (by kernel_rfl) (by kernel_rfl) (by kernel_rfl) (fun _ _ _ h => h) (Or.inl ⟨by rfl, ?_⟩) (by assumption) ?_; rotate_left 1; (focus (intro w' hSw; (try dsimp only at hSw); go_simp; (try with_reducible rfl); done)); try simp only [Act.put, List.setIfInBounds_toArray, List.set_cons_zero, List.set_cons_succ, List.getElem_toArray, List.getElem_cons_zero, List.getElem_cons_succ])
            (refine wpAnyH_take (i := 17) (v := ?_) rfl (by kernel_rfl) (by kernel_rfl) (by kernel_rfl) (fun _ _ _ h => h) (Or.inl ⟨by rfl, ?_⟩) (by assumption) ?_; rotate_left 1; (focus (intro w' hSw; (try dsimp only at hSw); go_simp; (try with_reducible rfl); done)); try simp only [Act.put, List.setIfInBounds_toArray, List.set_cons_zero, List.set_cons_succ, List.getElem_toArray, List.getElem_cons_zero, List.getElem_cons_succ])
            have hc : Below X.drew.heap.size X.drew X.drew := Below.refl _ _
            refine wpAnyH_ready (rs := [13]) (by kernel_rfl) (by simp) ?_
            refine AllReadyH.cons rfl (fun K hK => ?_) AllReadyH.nil
            go_simp
            obtain ⟨U2, hU2⟩ : ∃ U, U = (X.alloc (.cells #[.int .i64 i0] 3)).drew := ⟨_, rfl⟩
            rw [← hU2]
            have hc2 : Below X.drew.heap.size X.drew U2 := by rw [hU2]; exact hc.alloc hc.size _
            have HSA := Lib.hid (show SArr U2 (Lt U2.heap.size) (some ⟨X.drew.heap.size, 0, none⟩) 1 [i0] by rw [hU2]; exact sarr_one _ _)
            clear hU2
            refine hK.out _ _ ⟨(hc2.cell (p := ⟨BX, 0, none⟩) zi).trans p0, (hc2.cell (p := ⟨BX, 1, none⟩) zi).trans p1, (hc2.cell (p := ⟨BX, 2, none⟩) zi).trans p2, (hc2.cell (p := ⟨BX, 3, none⟩) zi).trans p3, (hc2.cell (p := ⟨BX, 4, none⟩) zi).trans p4, (hc2.cell (p := ⟨FB, 0, none⟩) zf).trans q0, (hc2.cell (p := ⟨FB, 1, none⟩) zf).trans q1, (hc2.cell (p := ⟨FB, 2, none⟩) zf).trans q2, (hc2.cell (p := ⟨FB, 3, none⟩) zf).trans q3, (hc2.cell (p := ⟨FB, 4, none⟩) zf).trans q4⟩ (fun hHeld2 => ?_)
            clear hK K hHeld
            have hHeld := hHeld2
            clear hHeld2
            try simp only [Act.put, List.setIfInBounds_toArray, List.set_cons_zero, List.set_cons_succ, List.getElem_toArray, List.getElem_cons_zero, List.getElem_cons_succ]
            refine wpAnyH_ready (rs := [14]) (by kernel_rfl) (by simp) ?_
            refine AllReadyH.cons rfl (fun K hK => ?_) AllReadyH.nil
            go_simp
            go_at_call 22
            refine (prefixO_at QA QC 3 (qOf I) (f :: R) _ 1 1 [i0] U2 rfl HFL.out rfl (HQX.out.next (show Below X.heap.size X U2 from Below.trans (Below.refl X.heap.size X).drew hc2)) HSA.out (by rw [HLF.out]; omega) (by simp)).mono ?_
            rintro e W6 ⟨b, rfl, hbp, hb⟩
            have hbq : b = true := hbp.2 (HPI.out.2 rfl)
            subst hbq
            have hc3 : Below X.drew.heap.size X.drew W6 := hc2.trans (hb.mono hc2.size)
            clear hb hbp
            go_wp2_with fail
            refine hK.out _ _ ⟨(hc3.cell (p := ⟨BX, 0, none⟩) zi).trans p0, (hc3.cell (p := ⟨BX, 1, none⟩) zi).trans p1, (hc3.cell (p := ⟨BX, 2, none⟩) zi).trans p2, (hc3.cell (p := ⟨BX, 3, none⟩) zi).trans p3, (hc3.cell (p := ⟨BX, 4, none⟩) zi).trans p4, (hc3.cell (p := ⟨FB, 0, none⟩) zf).trans q0, (hc3.cell (p := ⟨FB, 1, none⟩) zf).trans q1, (hc3.cell (p := ⟨FB, 2, none⟩) zf).trans q2, (hc3.cell (p := ⟨FB, 3, none⟩) zf).trans q3, (hc3.cell (p := ⟨FB, 4, none⟩) zf).trans q4⟩ (fun hHeld2 => ?_)
            clear hK K hHeld
            have hHeld := hHeld2
            clear hHeld2
            try simp only [Act.put, List.setIfInBounds_toArray, List.set_cons_zero, List.set_cons_succ, List.getElem_toArray, List.getElem_cons_zero, List.getElem_cons_succ]
            (refine wpAnyH_take (i := 18) (v := ?_) rfl (by kernel_rfl) (by kernel_rfl) (by kernel_rfl) (fun _ _ _ h => h) (Or.inl ⟨by rfl, ?_⟩) (by assumption) ?_; rotate_left 1; (focus (intro w' hSw; (try dsimp only at hSw); go_simp; (try with_reducible rfl); done)); try simp only [Act.put, List.setIfInBounds_toArray, List.set_cons_zero, List.set_cons_succ, List.getElem_toArray, List.getElem_cons_zero, List.getElem_cons_succ])
            (refine wpAnyH_take (i := 19) (v := ?_) rfl (by kernel_rfl) (by kernel_rfl) (by kernel_rfl) (fun _ _ _ h => h) (Or.inl ⟨by rfl, ?_⟩) (by assumption) ?_; rotate_left 1; (focus (intro w' hSw; (try dsimp only at hSw); go_simp; (try with_reducible rfl); done)); try simp only [Act.put, List.setIfInBounds_toArray, List.set_cons_zero, List.set_cons_succ, List.getElem_toArray, List.getElem_cons_zero, List.getElem_cons_succ])
            refine wpAnyH_done (by kernel_rfl) ?_ _
            go_wp2
            go_meet
            exact ⟨rfl, Below.trans (Below.refl X.heap.size X).drew hc3⟩
          | false =>
            refine wp_region_held_drew (S := (fun w' => w'.cell? ⟨BX, 0, none⟩ = some (.int .i64 i0) ∧ w'.cell? ⟨BX, 1, none⟩ = some (.int .i64 i1) ∧ w'.cell? ⟨BX, 2, none⟩ = some (.int .i64 i2) ∧ w'.cell? ⟨BX, 3, none⟩ = some (.int .i64 i3) ∧ w'.cell? ⟨BX, 4, none⟩ = some (.int .i64 i4) ∧ w'.cell? ⟨FB, 0, none⟩ = some (.int .i64 f0) ∧ w'.cell? ⟨FB, 1, none⟩ = some (.int .i64 f1) ∧ w'.cell? ⟨FB, 2, none⟩ = some (.int .i64 f2) ∧ w'.cell? ⟨FB, 3, none⟩ = some (.int .i64 f3) ∧ w'.cell? ⟨FB, 4, none⟩ = some (.int .i64 f4))) (by kernel_rfl) ?_ (fun hHeld => ?_)
            · exact ⟨p0, p1, p2, p3, p4, q0, q1, q2, q3, q4⟩
            (refine wpAnyH_take (i := 0) (v := ?_) rfl (by kernel_rfl) (by kernel_rfl) (by kernel_rfl) (fun _ _ _ h => h) (Or.inl ⟨by rfl, ?_⟩) (by assumption) ?_; rotate_left 1; (focus (intro w' hSw; (try dsimp only at hSw); go_simp; (try with_reducible rfl); done)); try simp only [Act.put, List.setIfInBounds_toArray, List.set_cons_zero, List.set_cons_succ, List.getElem_toArray, List.getElem_cons_zero])
            (refine wpAnyH_take (i := 1) (v := ?_) rfl (by kernel_rfl) (by kernel_rfl) (by kernel_rfl) (fun _ _ _ h => h) (Or.inl ⟨by rfl, ?_⟩) (by assumption) ?_; rotate_left 1; (focus (intro w' hSw; (try dsimp only at hSw); go_simp; (try with_reducible rfl); done)); try simp only [Act.put, List.setIfInBounds_toArray, List.set_cons_zero, List.set_cons_succ, List.getElem_toArray, List.getElem_cons_zero, List.getElem_cons_succ])
            (refine wpAnyH_take (i := 2) (v := ?_) rfl (by kernel_rfl) (by kernel_rfl) (by kernel_rfl) (fun _ _ _ h => h) (Or.inl ⟨by rfl, ?_⟩) (by assumption) ?_; rotate_left 1; (focus (intro w' hSw; (try dsimp only at hSw); go_simp; (try with_reducible rfl); done)); try simp only [Act.put, List.setIfInBounds_toArray, List.set_cons_zero, List.set_cons_succ, List.getElem_toArray, List.getElem_cons_zero, List.getElem_cons_succ])
            (refine wpAnyH_take (i := 3) (v := ?_) rfl (by kernel_rfl) (by kernel_rfl) (by kernel_rfl) (fun _ _ _ h => h) (Or.inl ⟨by rfl, ?_⟩) (by assumption) ?_; rotate_left 1; (focus (intro w' hSw; (try dsimp only at hSw); go_simp; (try with_reducible rfl); done)); try simp only [Act.put, List.setIfInBounds_toArray, List.set_cons_zero, List.set_cons_succ, List.getElem_toArray, List.getElem_cons_zero, List.getElem_cons_succ])
            (refine wpAnyH_take (i := 4) (v := ?_) rfl (by kernel_rfl) (by kernel_rfl) (by kernel_rfl) (fun _ _ _ h => h) (Or.inl ⟨by rfl, ?_⟩) (by assumption) ?_; rotate_left 1; (focus (intro w' hSw; (try dsimp only at hSw); go_simp; (try with_reducible rfl); done)); try simp only [Act.put, List.setIfInBounds_toArray, List.set_cons_zero, List.set_cons_succ, List.getElem_toArray, List.getElem_cons_zero, List.getElem_cons_succ])
            (refine wpAnyH_take (i := 5) (v := ?_) rfl (by kernel_rfl) (by kernel_rfl) (by kernel_rfl) (fun _ _ _ h => h) (Or.inl ⟨by rfl, ?_⟩) (by assumption) ?_; rotate_left 1; (focus (intro w' hSw; (try dsimp only at hSw); go_simp; (try with_reducible rfl); done)); try simp only [Act.put, List.setIfInBounds_toArray, List.set_cons_zero, List.set_cons_succ, List.getElem_toArray, List.getElem_cons_zero, List.getElem_cons_succ])
            refine wpAnyH_ready (rs := [6]) (by kernel_rfl) (by simp) ?_
            refine AllReadyH.cons rfl (fun K hK => ?_) AllReadyH.nil
            go_simp
            go_at_call 10
            refine (before_any f0 f1 f2 f3 f4 i0 i1 i2 i3 i4 _).mono ?_
            rintro e W5 ⟨rfl, hb⟩
            rw [HBE.out rfl]
            have hc : Below X.drew.heap.size X.drew W5 := hb
            clear hb
            go_wp2_with fail
            refine hK.out _ _ ⟨(hc.cell (p := ⟨BX, 0, none⟩) zi).trans p0, (hc.cell (p := ⟨BX, 1, none⟩) zi).trans p1, (hc.cell (p := ⟨BX, 2, none⟩) zi).trans p2, (hc.cell (p := ⟨BX, 3, none⟩) zi).trans p3, (hc.cell (p := ⟨BX, 4, none⟩) zi).trans p4, (hc.cell (p := ⟨FB, 0, none⟩) zf).trans q0, (hc.cell (p := ⟨FB, 1, none⟩) zf).trans q1, (hc.cell (p := ⟨FB, 2, none⟩) zf).trans q2, (hc.cell (p := ⟨FB, 3, none⟩) zf).trans q3, (hc.cell (p := ⟨FB, 4, none⟩) zf).trans q4⟩ (fun hHeld2 => ?_)
            clear hK K hHeld
            have hHeld := hHeld2
            clear hHeld2
            try simp only [Act.put, List.setIfInBounds_toArray, List.set_cons_zero, List.set_cons_succ, List.getElem_toArray, List.getElem_cons_zero, List.getElem_cons_succ]
            (refine wpAnyH_take (i := 7) (v := ?_) rfl (by kernel_rfl) (by kernel_rfl) (by kernel_rfl) (fun _ _ _ h => h) (Or.inl ⟨by rfl, ?_⟩) (by assumption) ?_; rotate_left 1; (focus (intro w' hSw; (try dsimp only at hSw); go_simp; (try with_reducible rfl); done)); try simp only [Act.put, List.setIfInBounds_toArray, List.set_cons_zero, List.set_cons_succ, List.getElem_toArray, List.getElem_cons_zero, List.getElem_cons_succ])
            (refine wpAnyH_take (i := 8) (v := ?_) rfl (by kernel_rfl) (by kernel_rfl) (by kernel_rfl) (fun _ _ _ h => h) (Or.inl ⟨by rfl, ?_⟩) (by assumption) ?_; rotate_left 1; (focus (intro w' hSw; (try dsimp only at hSw); go_simp; (try with_reducible rfl); done)); try simp only [Act.put, List.setIfInBounds_toArray, List.set_cons_zero, List.set_cons_succ, List.getElem_toArray, List.getElem_cons_zero, List.getElem_cons_succ])
            (refine wpAnyH_take (i := 9) (v := ?_) rfl (by kernel_rfl) (by kernel_rfl) (by kernel_rfl) (fun _ _ _ h => h) (Or.inl ⟨by rfl, ?_⟩) (by assumption) ?_; rotate_left 1; (focus (intro w' hSw; (try dsimp only at hSw); go_simp; (try with_reducible rfl); done)); try simp only [Act.put, List.setIfInBounds_toArray, List.set_cons_zero, List.set_cons_succ, List.getElem_toArray, List.getElem_cons_zero, List.getElem_cons_succ])
            (refine wpAnyH_take (i := 10) (v := ?_) rfl (by kernel_rfl) (by kernel_rfl) (by kernel_rfl) (fun _ _ _ h => h) (Or.inl ⟨by rfl, ?_⟩) (by assumption) ?_; rotate_left 1; (focus (intro w' hSw; (try dsimp only at hSw); go_simp; (try with_reducible rfl); done)); try simp only [Act.put, List.setIfInBounds_toArray, List.set_cons_zero, List.set_cons_succ, List.getElem_toArray, List.getElem_cons_zero, List.getElem_cons_succ])
            (refine wpAnyH_take (i := 11) (v := ?_) rfl (by kernel_rfl) (by kernel_rfl) (by kernel_rfl) (fun _ _ _ h => h) (Or.inl ⟨by rfl, ?_⟩) (by assumption) ?_; rotate_left 1; (focus (intro w' hSw; (try dsimp only at hSw); go_simp; (try with_reducible rfl); done)); try simp only [Act.put, List.setIfInBounds_toArray, List.set_cons_zero, List.set_cons_succ, List.getElem_toArray, List.getElem_cons_zero, List.getElem_cons_succ])
            (refine wpAnyH_take (i := 12) (v := ?_) rfl (by kernel_rfl) (by kernel_rfl) (by kernel_rfl) (fun _ _ _ h => h) (Or.inl ⟨by rfl, ?_⟩) (by assumption) ?_; rotate_left 1; (focus (intro w' hSw; (try dsimp only at hSw); go_simp; (try with_reducible rfl); done)); try simp only [Act.put, List.setIfInBounds_toArray, List.set_cons_zero, List.set_cons_succ, List.getElem_toArray, List.getElem_cons_zero, List.getElem_cons_succ])
            (refine wpAnyH_take (i := 15) (v := ?_) rfl (by kernel_rfl) (by kernel_rfl) (by kernel_rfl) (fun _ _ _ h => h) (Or.inl ⟨by rfl, ?_⟩) (by assumption) ?_; rotate_left 1; (focus (intro w' hSw; (try dsimp only at hSw); go_simp; (try with_reducible rfl); done)); try simp only [Act.put, List.setIfInBounds_toArray, List.set_cons_zero, List.set_cons_succ, List.getElem_toArray, List.getElem_cons_zero, List.getElem_cons_succ])
            (refine wpAnyH_take (i := 16) (v := ?_) rfl (by kernel_rfl) (by kernel_rfl) (by kernel_rfl) (fun _ _ _ h => h) (Or.inl ⟨by rfl, ?_⟩) (by assumption) ?_; rotate_left 1; (focus (intro w' hSw; (try dsimp only at hSw); go_simp; (try with_reducible rfl); done)); try simp only [Act.put, List.setIfInBounds_toArray, List.set_cons_zero, List.set_cons_succ, List.getElem_toArray, List.getElem_cons_zero, List.getElem_cons_succ])
            (refine wpAnyH_take (i := 17) (v := ?_) rfl (by kernel_rfl) (by kernel_rfl) (by kernel_rfl) (fun _ _ _ h => h) (Or.inl ⟨by rfl, ?_⟩) (by assumption) ?_; rotate_left 1; (focus (intro w' hSw; (try dsimp only at hSw); go_simp; (try with_reducible rfl); done)); try simp only [Act.put, List.setIfInBounds_toArray, List.set_cons_zero, List.set_cons_succ, List.getElem_toArray, List.getElem_cons_zero, List.getElem_cons_succ])
            refine wpAnyH_ready (rs := [13]) (by kernel_rfl) (by simp) ?_
            refine AllReadyH.cons rfl (fun K hK => ?_) AllReadyH.nil
            go_simp
            obtain ⟨U2, hU2⟩ : ∃ U, U = W5.alloc (.cells #[.int .i64 i0] 3) := ⟨_, rfl⟩
            rw [← hU2]
            have hc2 : Below X.drew.heap.size X.drew U2 := by rw [hU2]; exact hc.alloc hc.size _
            have HSA := Lib.hid (show SArr U2 (Lt U2.heap.size) (some ⟨W5.heap.size, 0, none⟩) 1 [i0] by rw [hU2]; exact sarr_one _ _)
            clear hU2
            refine hK.out _ _ ⟨(hc2.cell (p := ⟨BX, 0, none⟩) zi).trans p0, (hc2.cell (p := ⟨BX, 1, none⟩) zi).trans p1, (hc2.cell (p := ⟨BX, 2, none⟩) zi).trans p2, (hc2.cell (p := ⟨BX, 3, none⟩) zi).trans p3, (hc2.cell (p := ⟨BX, 4, none⟩) zi).trans p4, (hc2.cell (p := ⟨FB, 0, none⟩) zf).trans q0, (hc2.cell (p := ⟨FB, 1, none⟩) zf).trans q1, (hc2.cell (p := ⟨FB, 2, none⟩) zf).trans q2, (hc2.cell (p := ⟨FB, 3, none⟩) zf).trans q3, (hc2.cell (p := ⟨FB, 4, none⟩) zf).trans q4⟩ (fun hHeld2 => ?_)
            clear hK K hHeld
            have hHeld := hHeld2
            clear hHeld2
            try simp only [Act.put, List.setIfInBounds_toArray, List.set_cons_zero, List.set_cons_succ, List.getElem_toArray, List.getElem_cons_zero, List.getElem_cons_succ]
            refine wpAnyH_ready (rs := [14]) (by kernel_rfl) (by simp) ?_
            refine AllReadyH.cons rfl (fun K hK => ?_) AllReadyH.nil
            go_simp
            go_at_call 22
            refine (prefixO_at QA QC 3 (qOf I) (f :: R) _ 1 1 [i0] U2 rfl HFL.out rfl (HQX.out.next (show Below X.heap.size X U2 from Below.trans (Below.refl X.heap.size X).drew hc2)) HSA.out (by rw [HLF.out]; omega) (by simp)).mono ?_
            rintro e W6 ⟨b, rfl, hbp, hb⟩
            have hbq : b = false := by cases b with | false => rfl | true => exact absurd (HPI.out.1 (hbp.1 rfl)) (by decide)
            subst hbq
            have hc3 : Below X.drew.heap.size X.drew W6 := hc2.trans (hb.mono hc2.size)
            clear hb hbp
            go_wp2_with fail
            refine hK.out _ _ ⟨(hc3.cell (p := ⟨BX, 0, none⟩) zi).trans p0, (hc3.cell (p := ⟨BX, 1, none⟩) zi).trans p1, (hc3.cell (p := ⟨BX, 2, none⟩) zi).trans p2, (hc3.cell (p := ⟨BX, 3, none⟩) zi).trans p3, (hc3.cell (p := ⟨BX, 4, none⟩) zi).trans p4, (hc3.cell (p := ⟨FB, 0, none⟩) zf).trans q0, (hc3.cell (p := ⟨FB, 1, none⟩) zf).trans q1, (hc3.cell (p := ⟨FB, 2, none⟩) zf).trans q2, (hc3.cell (p := ⟨FB, 3, none⟩) zf).trans q3, (hc3.cell (p := ⟨FB, 4, none⟩) zf).trans q4⟩ (fun hHeld2 => ?_)
            clear hK K hHeld
            have hHeld := hHeld2
            clear hHeld2
            try simp only [Act.put, List.setIfInBounds_toArray, List.set_cons_zero, List.set_cons_succ, List.getElem_toArray, List.getElem_cons_zero, List.getElem_cons_succ]
            (refine wpAnyH_take (i := 18) (v := ?_) rfl (by kernel_rfl) (by kernel_rfl) (by kernel_rfl) (fun _ _ _ h => h) (Or.inl ⟨by rfl, ?_⟩) (by assumption) ?_; rotate_left 1; (focus (intro w' hSw; (try dsimp only at hSw); go_simp; (try with_reducible rfl); done)); try simp only [Act.put, List.setIfInBounds_toArray, List.set_cons_zero, List.set_cons_succ, List.getElem_toArray, List.getElem_cons_zero, List.getElem_cons_succ])
            (refine wpAnyH_take (i := 19) (v := ?_) rfl (by kernel_rfl) (by kernel_rfl) (by kernel_rfl) (fun _ _ _ h => h) (Or.inl ⟨by rfl, ?_⟩) (by assumption) ?_; rotate_left 1; (focus (intro w' hSw; (try dsimp only at hSw); go_simp; (try with_reducible rfl); done)); try simp only [Act.put, List.setIfInBounds_toArray, List.set_cons_zero, List.set_cons_succ, List.getElem_toArray, List.getElem_cons_zero, List.getElem_cons_succ])
            refine wpAnyH_done (by kernel_rfl) ?_ _
            go_wp2
            go_meet
            exact ⟨rfl, Below.trans (Below.refl X.heap.size X).drew hc3⟩
        case rest =>
          obtain ⟨rfl, hb⟩ := hcut
          have HB5 := Lib.hid (below_next HBB.out (Nat.le_refl _) hb)
          clear hb
          go_wp2_with fail
          exact ⟨⟨t + 1, by omega, by go_num, HB5.out⟩, by simp [intOf]; omega⟩
      · have hlt2 : ¬ (t : Int) < li := by omega
        go_wp2_with fail
        refine (awake15_any _).mono ?_
        rintro e w2 ⟨rfl, hb⟩
        have HB4 := Lib.hid (below_next (below_next HBW.out (Nat.le_refl _) HB.out) (Nat.le_refl _) hb)
        clear hb
        go_wp2
        go_ret
        exact ⟨rfl, HB4.out⟩
end Go.Proofs.Ytlafkkekfkamoaa
