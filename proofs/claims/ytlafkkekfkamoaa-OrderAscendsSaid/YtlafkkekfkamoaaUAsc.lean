/-
  The walk of OrderAscends.
-/
import Derived.Test.YtlafkkekfkamoaaUFst
import Derived.Test.YtlafkkekfkamoaaUChs
namespace Go.Proofs.Ytlafkkekfkamoaa
open Go.RowKit
set_option maxRecDepth 100000
set_option linter.unusedVariables false

theorem allO_at (A : Option Addr) (c n : Nat) (Q : List (List IncR)) (F : List IncR) (w : World) (hn : n = Q.length) (hF : F = Q.flatten) (hQ : QArr w (Lt w.heap.size) A c Q) (hf : F.length ≤ 4096) : Calls Try.prog 21 #[.slice A n c] w (AllOf F w) := by
  subst hn hF
  exact allO_any A c Q w hQ hf
/-- The bit at a place. -/
def bitB (z : Int) (t : Nat) : Bool := bits BinOp.and IntKind.i64 (z / 2 ^ t) 1 == 1
/-- The numbers of a list, as a function. -/
def sqF (F : List IncR) (j : Nat) : Int := ((F[j]?).map fun i => i.sq).getD 0

set_option maxHeartbeats 8000000 in
theorem walkAsc (Al : Option Addr) (nl cl : Nat) (z : Int) (w : World) (hL : ListP w w.heap.size Al nl cl) (z0 : -9223372036854775808 ≤ z) (z1 : z ≤ 9223372036854775807) :
    Calls Try.prog 5 #[.slice Al nl cl, .int .i64 z] w fun e w' => e = .returned (.bool true) ∧ Below w.heap.size w w' := by
  obtain ⟨n0, hn0, hy0, hy1, hy2⟩ := info_parts int_info
  have HL := Lib.hid hL
  clear hL
  go_enter Try.func5, Try.ntmps5
  go_wp2_with fail
  refine (deck_any Al nl cl w HL.out).mono ?_
  rintro e U2 ⟨rfl, hd, hb, hz⟩
  have HDK := Lib.hid hd
  have HBU2 := Lib.hid hb
  clear hd hb
  go_wp2_with fail
  refine (spaceY_any w.heap.size U2 HDK.out).mono ?_
  rintro e U3 ⟨K, m, B, d, gb, d', wd, F, L, rfl, kk0, kk1, m0, m1, hoA, hoT, ⟨hvp, how, hu⟩, ⟨_, I, BI', hBI, hLR, hAll, _, hcov⟩, hG⟩
  have HBU3 := Lib.hid (below_turn HBU2.out hG (by omega))
  obtain ⟨mk, hmk⟩ : ∃ mk, mk = m * 2 ^ K := ⟨_, rfl⟩
  rw [← hmk] at hoA hvp ⊢
  obtain ⟨V, hV⟩ : ∃ V, V = U3.alloc (.cells #[.int .i64 K, .slice B mk d, .slice (some ⟨gb, 0, none⟩) m d'] 36) := ⟨_, rfl⟩
  have hbv : Below U3.heap.size U3 V := by rw [hV]; exact (Below.refl _ _).alloc (Nat.le_refl _) _
  obtain ⟨SB, hSB⟩ : ∃ b, b = U3.heap.size := ⟨_, rfl⟩
  have BY := Lib.hid (show Blk V SB 36 #[.int .i64 K, .slice B mk d, .slice (some ⟨gb, 0, none⟩) m d'] by rw [hV, hSB]; exact Blk.new _ _ _)
  have HBV := Lib.hid (below_next HBU3.out (Nat.le_refl _) hbv)
  have HST := Lib.hid (hoT.tab.next hbv)
  obtain ⟨LA, LC, hLe, hla⟩ := larr_of hLR.1
  subst hLe
  have HLA := Lib.hid (hla.lt.next hbv)
  have hI17 := allP_len hAll
  have HALL := Lib.hid hAll
  obtain ⟨li, hli⟩ : ∃ x, x = I.length := ⟨_, rfl⟩
  rw [← hli] at hI17 ⊢
  have HLI := Lib.hid hli
  have HVV := Lib.hid hV
  have HSB := Lib.hid hSB
  clear hV hbv hG HBU2 HDK hz hoA hoT hmk hvp how hu hLR hAll hBI hli hcov hla hSB
  go_wp2_with fail
  rw [← HVV.out, ← HSB.out]
  refine (queue_at LA LC li I V HLA.out (allP_belts HALL.out) (by have := HLI.out; omega) HLI.out).mono ?_
  rintro e V1 ⟨v, rfl, hr, _, hb⟩
  obtain ⟨QA, QC, rfl, hqa⟩ := hr.qarr
  rw [qOf_len]
  have BY1 := Lib.hid (BY.out.next hb)
  have HB1 : Hid (Below w.heap.size w V1) := below_next HBV.out (Nat.le_refl _) hb
  have HST1 := Lib.hid (HST.out.next hb)
  have HLA1 := Lib.hid (HLA.out.next hb)
  have HQ1 := Lib.hid hqa.lt
  have HTOT := Lib.hid (qOf_total (allP_belts HALL.out))
  obtain ⟨FL, hFL⟩ : ∃ FL, FL = (qOf I).flatten := ⟨_, rfl⟩
  have HFL := Lib.hid hFL
  clear hr hqa hb HVV BY HST HLA HL hFL
  go_wp2_with fail
  refine (allO_at QA QC 3 (qOf I) FL V1 rfl HFL.out HQ1.out (by rw [HFL.out, HTOT.out, ← HLI.out]; omega)).mono ?_
  rintro e V2 ⟨FA, FC, rfl, hl, hb⟩
  have HFI := Lib.hid (show ∀ i ∈ FL, i ∈ I by rw [HFL.out]; exact fun i hi => (flat_mem HALL.out).1 hi)
  have HASC := Lib.hid (show FL.Pairwise fun a b => stI a < stI b by rw [HFL.out]; exact flat_asc HALL.out)
  have hlf : FL.length = li := by rw [HFL.out, HTOT.out, ← HLI.out]
  have HB2 := Lib.hid (below_next HB1.out (Nat.le_refl _) hb)
  have HQ2 := Lib.hid (HQ1.out.next hb)
  have HF2 := Lib.hid hl
  have HST2 := Lib.hid (HST1.out.next hb)
  have BY2 := Lib.hid (BY1.out.next hb)
  have hcap := hl.1
  have hcap2 := hl.2.1
  simp only [maxLen] at hcap2
  rw [hlf] at hcap ⊢
  have HLF := Lib.hid hlf
  have HPB := Lib.hid (pre_chs (f := sqF FL) (p := bitB z) (F := FL) (fun j i hj => by simp [sqF, hj]) (fun j k hj hk e => by
    obtain ⟨i, hi⟩ := nth_of hj
    obtain ⟨i', hi'⟩ := nth_of hk
    have : i = i' := made_inj HALL.out (HFI.out i (List.mem_iff_getElem?.2 ⟨j, hi⟩)) (HFI.out i' (List.mem_iff_getElem?.2 ⟨k, hi'⟩)) (by simpa [sqF, hi, hi'] using e)
    subst this
    rcases Nat.lt_trichotomy j k with h | h | h
    · have := List.pairwise_iff_getElem.1 HASC.out j k hj hk h
      rw [List.getElem?_eq_getElem hj] at hi
      rw [List.getElem?_eq_getElem hk] at hi'
      injection hi with hi
      injection hi' with hi'
      rw [hi, hi'] at this
      omega
    · exact h
    · have := List.pairwise_iff_getElem.1 HASC.out k j hk hj h
      rw [List.getElem?_eq_getElem hj] at hi
      rw [List.getElem?_eq_getElem hk] at hi'
      injection hi with hi
      injection hi' with hi'
      rw [hi, hi'] at this
      omega))
  clear hb hl HB1 HQ1 HLA1 BY1 HST1 hlf
  go_wp2_with fail
  go_loopw [9, 10, 11, 31] (fun v a b i wr => ∃ t : Nat, t ≤ li ∧ i = .int .i64 t ∧ a = .bool (cloB (bitB z) t) ∧ b = .bool (gapB (bitB z) t) ∧ wr.ownsRow V2.heap.size 3 1 v (chs (sqF FL) (bitB z) t).length (numC (chs (sqF FL) (bitB z) t)) ∧ Below V2.heap.size V2 wr) (fun _ _ _ i _ => li - (intOf i).toNat)
  case atStart => exact ⟨0, by omega, rfl, rfl, rfl, World.ownsRow_nil _ _ _ _, Below.refl _ _⟩
  case round =>
    obtain ⟨t, ht, rfl, rfl, rfl, hrow, hb⟩ := hrel
    obtain ⟨cl0, hcl0⟩ : ∃ b, b = cloB (bitB z) t := ⟨_, rfl⟩
    obtain ⟨gp0, hgp0⟩ : ∃ b, b = gapB (bitB z) t := ⟨_, rfl⟩
    rw [← hcl0, ← hgp0]
    have HCL0 := Lib.hid hcl0
    have HGP0 := Lib.hid hgp0
    clear hcl0 hgp0
    have HB := Lib.hid hb
    have HROW := Lib.hid hrow
    clear hb hrow
    by_cases hlt : t < li
    · have hlt2 : 0 ≤ (t : Int) ∧ (t : Int) < li := by omega
      obtain ⟨i, hi⟩ := nth_of (show t < FL.length by rw [HLF.out]; exact hlt)
      obtain ⟨bl, ol, rfl, _, zl0, d0, d1, d2, d3, d4⟩ := (HF2.out.next HB.out).at_ hi
      have hmi : i ∈ I := HFI.out i (List.mem_iff_getElem?.2 ⟨t, hi⟩)
      have hsi := made_stamp HALL.out hmi
      obtain ⟨ti, hti⟩ := List.mem_iff_getElem?.1 hmi
      obtain ⟨⟨hq0, hq1, hq2, hq3, Wn, hwn, hch, _⟩, hwo, _⟩ := HALL.out ti i hti
      have hceil : 0 < ceilV Wn K := by
        rcases Nat.eq_zero_or_pos (ceilV Wn K) with h | h
        · have := ceilV_cover Wn K
          rw [h] at this
          omega
        · exact h
      rcases hch with ⟨hz, _⟩ | ⟨h60, p, lp, hfp, hpn, h61, h62, h63, h64, hpo, hps⟩
      · omega
      obtain ⟨gb', og, hgb, hgl, hgc⟩ := (HST2.out.next HB.out).at_ p hpn
      injection hgb with hgb
      injection hgb with hgb1 hgb2
      subst hgb1 hgb2
      obtain ⟨X, hX⟩ : ∃ X, X = wr.alloc (.cells #[.int .i64 i.sq, .int .i64 i.bt, .int .i64 i.fi, .int .i64 i.la, .int .i64 i.wo] 24) := ⟨_, rfl⟩
      have hbx : Below wr.heap.size wr X := by rw [hX]; exact (Below.refl _ _).alloc (Nat.le_refl _) _
      have BI := (show Blk X wr.heap.size 24 #[.int .i64 i.sq, .int .i64 i.bt, .int .i64 i.fi, .int .i64 i.la, .int .i64 i.wo] by rw [hX]; exact Blk.new _ _ _)
      obtain ⟨BX, hBX⟩ : ∃ b, b = wr.heap.size := ⟨_, rfl⟩
      rw [← hBX] at BI
      have HBX := Lib.hid hBX
      have HXE := Lib.hid hX
      have HBB := Lib.hid (below_next HB.out (Nat.le_refl _) hbx)
      obtain ⟨sst, hsst⟩ : ∃ s, s = (F p).st := ⟨_, rfl⟩
      have HST := Lib.hid (show stampZ i.bt i.sq = sst by rw [hsi, hsst, hps]; rfl)
      have y1 := hgc.2.1
      rw [← hsst] at y1
      simp at y1
      have HY1 := Lib.hid y1
      have hbys := (BY2.out.next HB.out).cell 2
      simp at hbys
      have HY0 := Lib.hid hbys
      have HZS := Lib.hid (BY2.out.next HB.out).lt
      have HGL := Lib.hid hgl
      have HI := Lib.hid hi
      have HQF := Lib.hid (show sqF FL t = i.sq by simp [sqF, hi])
      have hpm : (p : Int) < m := by omega
      have HPR := Lib.hid (show ∀ u, t = u + 1 → ∃ e, FL[u]? = some e ∧ decide (stampZ e.bt e.sq < stampZ i.bt i.sq) = true from fun u hu => by
        obtain ⟨e, he⟩ := nth_of (show u < FL.length by rw [HLF.out]; omega)
        refine ⟨e, he, ?_⟩
        have h1 := get_lt he
        have h2 := get_lt hi
        have h := List.pairwise_iff_getElem.1 HASC.out u t h1 h2 (by omega)
        rw [List.getElem?_eq_getElem h1] at he
        rw [List.getElem?_eq_getElem h2] at hi
        injection he with he
        injection hi with hi
        rw [he, hi] at h
        rw [hsi, made_stamp HALL.out (HFI.out e (by rw [← he]; exact List.getElem_mem h1)), decide_eq_true_iff]
        exact h)
      generalize i.sq = i0 at *
      generalize i.bt = i1 at *
      generalize i.fi = i2 at *
      generalize i.la = i3 at *
      generalize i.wo = i4 at *
      subst hfp
      clear h60 h61 h62 h63 h64 hi hmi hsi hti hq0 hq1 hq2 hq3 hwn hwo hceil hpo hps hgc hsst y1 hbys hgl hX hBX
      go_wp2_with fail
      rw [← HXE.out, ← HBX.out]
      go_cut [72] (fun q wx => q = .bool false ∧ Below X.heap.size X wx)
      case first =>
        have zs : SB < X.drew.heap.size := Nat.lt_of_lt_of_le HZS.out hbx.size
        have zg : gb < X.drew.heap.size := Nat.lt_of_lt_of_le HGL.out hbx.size
        have y0 : X.drew.cell? ⟨SB, 2, none⟩ = some (.slice (some ⟨gb, 0, none⟩) m d') := (hbx.cell (p := ⟨SB, 2, none⟩) HZS.out).trans HY0.out
        have y1 : X.drew.cell? ⟨gb, p * 3 + 1, none⟩ = some (.int .i64 sst) := (hbx.cell (p := ⟨gb, p * 3 + 1, none⟩) HGL.out).trans HY1.out
        have hpz : ¬ ((p : Int) < 0) := by omega
        have hpn2 : ¬ ((m : Int) ≤ p) := by omega
        have hpn3 : 0 ≤ (p : Int) ∧ (p : Int) < m := by omega
        have hd1 : decide ((p : Int) < 0) = false := by simp
        have hd2 : decide (m ≤ p) = false := by simp; omega
        have zi : BX < X.drew.heap.size := BI.lt
        have p0 : X.drew.cell? ⟨BX, 0, none⟩ = some (.int .i64 i0) := BI.cell 0
        have p1 : X.drew.cell? ⟨BX, 1, none⟩ = some (.int .i64 i1) := BI.cell 1
        have p2 : X.drew.cell? ⟨BX, 2, none⟩ = some (.int .i64 (p : Int)) := BI.cell 2
        have p3 : X.drew.cell? ⟨BX, 3, none⟩ = some (.int .i64 i3) := BI.cell 3
        have p4 : X.drew.cell? ⟨BX, 4, none⟩ = some (.int .i64 i4) := BI.cell 4
        clear BI
        rcases Nat.eq_zero_or_pos t with rfl | hpos
        · clear hbx
          refine wp_region_held_drew (S := (fun w' => w'.cell? ⟨BX, 0, none⟩ = some (.int .i64 i0) ∧ w'.cell? ⟨BX, 1, none⟩ = some (.int .i64 i1) ∧ w'.cell? ⟨BX, 2, none⟩ = some (.int .i64 (p : Int)) ∧ w'.cell? ⟨BX, 3, none⟩ = some (.int .i64 i3) ∧ w'.cell? ⟨BX, 4, none⟩ = some (.int .i64 i4) ∧ w'.cell? ⟨SB, 2, none⟩ = some (.slice (some ⟨gb, 0, none⟩) m d') ∧ w'.cell? ⟨gb, p * 3 + 1, none⟩ = some (.int .i64 sst))) (by kernel_rfl) ?_ (fun hHeld => ?_)
          · exact ⟨p0, p1, p2, p3, p4, y0, y1⟩
          (refine wpAnyH_take (i := 0) (v := ?_) rfl (by kernel_rfl) (by kernel_rfl) (by kernel_rfl) (fun _ _ _ h => h) (Or.inl ⟨by rfl, ?_⟩) (by assumption) ?_; rotate_left 1; (focus (intro w' hSw; (try dsimp only at hSw); go_simp; (try with_reducible rfl); done)); try simp only [Act.put, List.setIfInBounds_toArray, List.set_cons_zero, List.set_cons_succ, List.getElem_toArray, List.getElem_cons_zero])
          (refine wpAnyH_take (i := 1) (v := ?_) rfl (by kernel_rfl) (by kernel_rfl) (by kernel_rfl) (fun _ _ _ h => h) (Or.inl ⟨by rfl, ?_⟩) (by assumption) ?_; rotate_left 1; (focus (intro w' hSw; (try dsimp only at hSw); go_simp; (try with_reducible rfl); done)); try simp only [Act.put, List.setIfInBounds_toArray, List.set_cons_zero, List.set_cons_succ, List.getElem_toArray, List.getElem_cons_zero, List.getElem_cons_succ])
          (refine wpAnyH_take (i := 2) (v := ?_) rfl (by kernel_rfl) (by kernel_rfl) (by kernel_rfl) (fun _ _ _ h => h) (Or.inl ⟨by rfl, ?_⟩) (by assumption) ?_; rotate_left 1; (focus (intro w' hSw; (try dsimp only at hSw); go_simp; (try with_reducible rfl); done)); try simp only [Act.put, List.setIfInBounds_toArray, List.set_cons_zero, List.set_cons_succ, List.getElem_toArray, List.getElem_cons_zero, List.getElem_cons_succ])
          (refine wpAnyH_take (i := 3) (v := undef) rfl (by kernel_rfl) (by kernel_rfl) (by kernel_rfl) (fun _ _ _ h => h) (Or.inr ⟨by rfl, rfl⟩) (by assumption) ?_; try simp only [Act.put, List.setIfInBounds_toArray, List.set_cons_zero, List.set_cons_succ, List.getElem_toArray, List.getElem_cons_zero, List.getElem_cons_succ])
          (refine wpAnyH_take (i := 4) (v := undef) rfl (by kernel_rfl) (by kernel_rfl) (by kernel_rfl) (fun _ _ _ h => h) (Or.inr ⟨by rfl, rfl⟩) (by assumption) ?_; try simp only [Act.put, List.setIfInBounds_toArray, List.set_cons_zero, List.set_cons_succ, List.getElem_toArray, List.getElem_cons_zero, List.getElem_cons_succ])
          (refine wpAnyH_take (i := 5) (v := undef) rfl (by kernel_rfl) (by kernel_rfl) (by kernel_rfl) (fun _ _ _ h => h) (Or.inr ⟨by rfl, rfl⟩) (by assumption) ?_; try simp only [Act.put, List.setIfInBounds_toArray, List.set_cons_zero, List.set_cons_succ, List.getElem_toArray, List.getElem_cons_zero, List.getElem_cons_succ])
          (refine wpAnyH_take (i := 6) (v := undef) rfl (by kernel_rfl) (by kernel_rfl) (by kernel_rfl) (fun _ _ _ h => h) (Or.inr ⟨by rfl, rfl⟩) (by assumption) ?_; try simp only [Act.put, List.setIfInBounds_toArray, List.set_cons_zero, List.set_cons_succ, List.getElem_toArray, List.getElem_cons_zero, List.getElem_cons_succ])
          (refine wpAnyH_take (i := 7) (v := undef) rfl (by kernel_rfl) (by kernel_rfl) (by kernel_rfl) (fun _ _ _ h => h) (Or.inr ⟨by rfl, rfl⟩) (by assumption) ?_; try simp only [Act.put, List.setIfInBounds_toArray, List.set_cons_zero, List.set_cons_succ, List.getElem_toArray, List.getElem_cons_zero, List.getElem_cons_succ])
          (refine wpAnyH_take (i := 8) (v := undef) rfl (by kernel_rfl) (by kernel_rfl) (by kernel_rfl) (fun _ _ _ h => h) (Or.inr ⟨by rfl, rfl⟩) (by assumption) ?_; try simp only [Act.put, List.setIfInBounds_toArray, List.set_cons_zero, List.set_cons_succ, List.getElem_toArray, List.getElem_cons_zero, List.getElem_cons_succ])
          (refine wpAnyH_take (i := 9) (v := undef) rfl (by kernel_rfl) (by kernel_rfl) (by kernel_rfl) (fun _ _ _ h => h) (Or.inr ⟨by rfl, rfl⟩) (by assumption) ?_; try simp only [Act.put, List.setIfInBounds_toArray, List.set_cons_zero, List.set_cons_succ, List.getElem_toArray, List.getElem_cons_zero, List.getElem_cons_succ])
          (refine wpAnyH_take (i := 10) (v := undef) rfl (by kernel_rfl) (by kernel_rfl) (by kernel_rfl) (fun _ _ _ h => h) (Or.inr ⟨by rfl, rfl⟩) (by assumption) ?_; try simp only [Act.put, List.setIfInBounds_toArray, List.set_cons_zero, List.set_cons_succ, List.getElem_toArray, List.getElem_cons_zero, List.getElem_cons_succ])
          (refine wpAnyH_take (i := 11) (v := ?_) rfl (by kernel_rfl) (by kernel_rfl) (by kernel_rfl) (fun _ _ _ h => h) (Or.inl ⟨by rfl, ?_⟩) (by assumption) ?_; rotate_left 1; (focus (intro w' hSw; (try dsimp only at hSw); go_simp; (try with_reducible rfl); done)); try simp only [Act.put, List.setIfInBounds_toArray, List.set_cons_zero, List.set_cons_succ, List.getElem_toArray, List.getElem_cons_zero, List.getElem_cons_succ])
          (refine wpAnyH_take (i := 12) (v := ?_) rfl (by kernel_rfl) (by kernel_rfl) (by kernel_rfl) (fun _ _ _ h => h) (Or.inl ⟨by rfl, ?_⟩) (by assumption) ?_; rotate_left 1; (focus (intro w' hSw; (try dsimp only at hSw); go_simp; (try with_reducible rfl); done)); try simp only [Act.put, List.setIfInBounds_toArray, List.set_cons_zero, List.set_cons_succ, List.getElem_toArray, List.getElem_cons_zero, List.getElem_cons_succ])
          (refine wpAnyH_take (i := 13) (v := ?_) rfl (by kernel_rfl) (by kernel_rfl) (by kernel_rfl) (fun _ _ _ h => h) (Or.inl ⟨by rfl, ?_⟩) (by assumption) ?_; rotate_left 1; (focus (intro w' hSw; (try dsimp only at hSw); go_simp; (try with_reducible rfl); done)); try simp only [Act.put, List.setIfInBounds_toArray, List.set_cons_zero, List.set_cons_succ, List.getElem_toArray, List.getElem_cons_zero, List.getElem_cons_succ])
          (refine wpAnyH_take (i := 14) (v := ?_) rfl (by kernel_rfl) (by kernel_rfl) (by kernel_rfl) (fun _ _ _ h => h) (Or.inl ⟨by rfl, ?_⟩) (by assumption) ?_; rotate_left 1; (focus (intro w' hSw; (try dsimp only at hSw); go_simp; (try with_reducible rfl); done)); try simp only [Act.put, List.setIfInBounds_toArray, List.set_cons_zero, List.set_cons_succ, List.getElem_toArray, List.getElem_cons_zero, List.getElem_cons_succ])
          (refine wpAnyH_take (i := 15) (v := ?_) rfl (by kernel_rfl) (by kernel_rfl) (by kernel_rfl) (fun _ _ _ h => h) (Or.inl ⟨by rfl, ?_⟩) (by assumption) ?_; rotate_left 1; (focus (intro w' hSw; (try dsimp only at hSw); go_simp; (try with_reducible rfl); done)); try simp only [Act.put, List.setIfInBounds_toArray, List.set_cons_zero, List.set_cons_succ, List.getElem_toArray, List.getElem_cons_zero, List.getElem_cons_succ])
          (refine wpAnyH_take (i := 16) (v := ?_) rfl (by kernel_rfl) (by kernel_rfl) (by kernel_rfl) (fun _ _ _ h => h) (Or.inl ⟨by rfl, ?_⟩) (by assumption) ?_; rotate_left 1; (focus (intro w' hSw; (try dsimp only at hSw); go_simp; (try with_reducible rfl); done)); try simp only [Act.put, List.setIfInBounds_toArray, List.set_cons_zero, List.set_cons_succ, List.getElem_toArray, List.getElem_cons_zero, List.getElem_cons_succ])
          (refine wpAnyH_take (i := 17) (v := ?_) rfl (by kernel_rfl) (by kernel_rfl) (by kernel_rfl) (fun _ _ _ h => h) (Or.inl ⟨by rfl, ?_⟩) (by assumption) ?_; rotate_left 1; (focus (intro w' hSw; (try dsimp only at hSw); go_simp; (try with_reducible rfl); done)); try simp only [Act.put, List.setIfInBounds_toArray, List.set_cons_zero, List.set_cons_succ, List.getElem_toArray, List.getElem_cons_zero, List.getElem_cons_succ])
          (refine wpAnyH_take (i := 18) (v := ?_) rfl (by kernel_rfl) (by kernel_rfl) (by kernel_rfl) (fun _ _ _ h => h) (Or.inl ⟨by rfl, ?_⟩) (by assumption) ?_; rotate_left 1; (focus (intro w' hSw; (try dsimp only at hSw); go_simp; (try with_reducible rfl); done)); try simp only [Act.put, List.setIfInBounds_toArray, List.set_cons_zero, List.set_cons_succ, List.getElem_toArray, List.getElem_cons_zero, List.getElem_cons_succ])
          (refine wpAnyH_take (i := 19) (v := ?_) rfl (by kernel_rfl) (by kernel_rfl) (by kernel_rfl) (fun _ _ _ h => h) (Or.inl ⟨by rfl, ?_⟩) (by assumption) ?_; rotate_left 1; (focus (intro w' hSw; (try dsimp only at hSw); go_simp; (try with_reducible rfl); done)); try simp only [Act.put, List.setIfInBounds_toArray, List.set_cons_zero, List.set_cons_succ, List.getElem_toArray, List.getElem_cons_zero, List.getElem_cons_succ])
          (refine wpAnyH_take (i := 20) (v := ?_) rfl (by kernel_rfl) (by kernel_rfl) (by kernel_rfl) (fun _ _ _ h => h) (Or.inl ⟨by rfl, ?_⟩) (by assumption) ?_; rotate_left 1; (focus (intro w' hSw; (try dsimp only at hSw); go_simp; (try with_reducible rfl); done)); try simp only [Act.put, List.setIfInBounds_toArray, List.set_cons_zero, List.set_cons_succ, List.getElem_toArray, List.getElem_cons_zero, List.getElem_cons_succ])
          (refine wpAnyH_take (i := 21) (v := ?_) rfl (by kernel_rfl) (by kernel_rfl) (by kernel_rfl) (fun _ _ _ h => h) (Or.inl ⟨by rfl, ?_⟩) (by assumption) ?_; rotate_left 1; (focus (intro w' hSw; (try dsimp only at hSw); go_simp; (try with_reducible rfl); done)); try simp only [Act.put, List.setIfInBounds_toArray, List.set_cons_zero, List.set_cons_succ, List.getElem_toArray, List.getElem_cons_zero, List.getElem_cons_succ])
          (refine wpAnyH_take (i := 22) (v := ?_) rfl (by kernel_rfl) (by kernel_rfl) (by kernel_rfl) (fun _ _ _ h => h) (Or.inl ⟨by rfl, ?_⟩) (by assumption) ?_; rotate_left 1; (focus (intro w' hSw; (try dsimp only at hSw); go_simp; (try with_reducible rfl); done)); try simp only [Act.put, List.setIfInBounds_toArray, List.set_cons_zero, List.set_cons_succ, List.getElem_toArray, List.getElem_cons_zero, List.getElem_cons_succ])
          (refine wpAnyH_take (i := 23) (v := ?_) rfl (by kernel_rfl) (by kernel_rfl) (by kernel_rfl) (fun _ _ _ h => h) (Or.inl ⟨by rfl, ?_⟩) (by assumption) ?_; rotate_left 1; (focus (intro w' hSw; (try dsimp only at hSw); go_simp; (try with_reducible rfl); done)); try simp only [Act.put, List.setIfInBounds_toArray, List.set_cons_zero, List.set_cons_succ, List.getElem_toArray, List.getElem_cons_zero, List.getElem_cons_succ])
          (refine wpAnyH_take (i := 24) (v := ?_) rfl (by kernel_rfl) (by kernel_rfl) (by kernel_rfl) (fun _ _ _ h => h) (Or.inl ⟨by rfl, ?_⟩) (by assumption) ?_; rotate_left 1; (focus (intro w' hSw; (try dsimp only at hSw); go_simp; (try with_reducible rfl); done)); try simp only [Act.put, List.setIfInBounds_toArray, List.set_cons_zero, List.set_cons_succ, List.getElem_toArray, List.getElem_cons_zero, List.getElem_cons_succ])
          (refine wpAnyH_take (i := 25) (v := ?_) rfl (by kernel_rfl) (by kernel_rfl) (by kernel_rfl) (fun _ _ _ h => h) (Or.inl ⟨by rfl, ?_⟩) (by assumption) ?_; rotate_left 1; (focus (intro w' hSw; (try dsimp only at hSw); go_simp; (try with_reducible rfl); done)); try simp only [Act.put, List.setIfInBounds_toArray, List.set_cons_zero, List.set_cons_succ, List.getElem_toArray, List.getElem_cons_zero, List.getElem_cons_succ])
          (refine wpAnyH_take (i := 26) (v := ?_) rfl (by kernel_rfl) (by kernel_rfl) (by kernel_rfl) (fun _ _ _ h => h) (Or.inl ⟨by rfl, ?_⟩) (by assumption) ?_; rotate_left 1; (focus (intro w' hSw; (try dsimp only at hSw); go_simp; (try with_reducible rfl); done)); try simp only [Act.put, List.setIfInBounds_toArray, List.set_cons_zero, List.set_cons_succ, List.getElem_toArray, List.getElem_cons_zero, List.getElem_cons_succ])
          (refine wpAnyH_take (i := 27) (v := ?_) rfl (by kernel_rfl) (by kernel_rfl) (by kernel_rfl) (fun _ _ _ h => h) (Or.inl ⟨by rfl, ?_⟩) (by assumption) ?_; rotate_left 1; (focus (intro w' hSw; (try dsimp only at hSw); go_simp; (try with_reducible rfl); done)); try simp only [Act.put, List.setIfInBounds_toArray, List.set_cons_zero, List.set_cons_succ, List.getElem_toArray, List.getElem_cons_zero, List.getElem_cons_succ])
          (refine wpAnyH_take (i := 28) (v := ?_) rfl (by kernel_rfl) (by kernel_rfl) (by kernel_rfl) (fun _ _ _ h => h) (Or.inl ⟨by rfl, ?_⟩) (by assumption) ?_; rotate_left 1; (focus (intro w' hSw; (try dsimp only at hSw); go_simp; (try with_reducible rfl); done)); try simp only [Act.put, List.setIfInBounds_toArray, List.set_cons_zero, List.set_cons_succ, List.getElem_toArray, List.getElem_cons_zero, List.getElem_cons_succ])
          (refine wpAnyH_take (i := 29) (v := ?_) rfl (by kernel_rfl) (by kernel_rfl) (by kernel_rfl) (fun _ _ _ h => h) (Or.inl ⟨by rfl, ?_⟩) (by assumption) ?_; rotate_left 1; (focus (intro w' hSw; (try dsimp only at hSw); go_simp; (try with_reducible rfl); done)); try simp only [Act.put, List.setIfInBounds_toArray, List.set_cons_zero, List.set_cons_succ, List.getElem_toArray, List.getElem_cons_zero, List.getElem_cons_succ])
          (refine wpAnyH_take (i := 30) (v := ?_) rfl (by kernel_rfl) (by kernel_rfl) (by kernel_rfl) (fun _ _ _ h => h) (Or.inl ⟨by rfl, ?_⟩) (by assumption) ?_; rotate_left 1; (focus (intro w' hSw; (try dsimp only at hSw); go_simp; (try with_reducible rfl); done)); try simp only [Act.put, List.setIfInBounds_toArray, List.set_cons_zero, List.set_cons_succ, List.getElem_toArray, List.getElem_cons_zero, List.getElem_cons_succ])
          (refine wpAnyH_take (i := 31) (v := ?_) rfl (by kernel_rfl) (by kernel_rfl) (by kernel_rfl) (fun _ _ _ h => h) (Or.inl ⟨by rfl, ?_⟩) (by assumption) ?_; rotate_left 1; (focus (intro w' hSw; (try dsimp only at hSw); go_simp; (try with_reducible rfl); done)); try simp only [Act.put, List.setIfInBounds_toArray, List.set_cons_zero, List.set_cons_succ, List.getElem_toArray, List.getElem_cons_zero, List.getElem_cons_succ])
          (refine wpAnyH_take (i := 32) (v := ?_) rfl (by kernel_rfl) (by kernel_rfl) (by kernel_rfl) (fun _ _ _ h => h) (Or.inl ⟨by rfl, ?_⟩) (by assumption) ?_; rotate_left 1; (focus (intro w' hSw; (try dsimp only at hSw); go_simp; (try with_reducible rfl); done)); try simp only [Act.put, List.setIfInBounds_toArray, List.set_cons_zero, List.set_cons_succ, List.getElem_toArray, List.getElem_cons_zero, List.getElem_cons_succ])
          (refine wpAnyH_take (i := 33) (v := ?_) rfl (by kernel_rfl) (by kernel_rfl) (by kernel_rfl) (fun _ _ _ h => h) (Or.inl ⟨by rfl, ?_⟩) (by assumption) ?_; rotate_left 1; (focus (intro w' hSw; (try dsimp only at hSw); go_simp; (try with_reducible rfl); done)); try simp only [Act.put, List.setIfInBounds_toArray, List.set_cons_zero, List.set_cons_succ, List.getElem_toArray, List.getElem_cons_zero, List.getElem_cons_succ])
          refine wpAnyH_ready (rs := [34]) (by kernel_rfl) (by simp) ?_
          refine AllReadyH.cons rfl (fun K hK => ?_) AllReadyH.nil
          go_simp
          go_at_call 8
          refine (stamp_any i0 i1 p i3 i4 _).mono ?_
          rintro e W6 ⟨rfl, hb⟩
          rw [HST.out]
          have hc3 : Below X.drew.heap.size X.drew W6 := hb
          clear hb
          go_wp2_with fail
          refine hK.out _ _ ⟨(hc3.cell (p := ⟨BX, 0, none⟩) zi).trans p0, (hc3.cell (p := ⟨BX, 1, none⟩) zi).trans p1, (hc3.cell (p := ⟨BX, 2, none⟩) zi).trans p2, (hc3.cell (p := ⟨BX, 3, none⟩) zi).trans p3, (hc3.cell (p := ⟨BX, 4, none⟩) zi).trans p4, (hc3.cell (p := ⟨SB, 2, none⟩) zs).trans y0, (hc3.cell (p := ⟨gb, p * 3 + 1, none⟩) zg).trans y1⟩ (fun hHeld2 => ?_)
          clear hK K hHeld
          have hHeld := hHeld2
          clear hHeld2
          try simp only [Act.put, List.setIfInBounds_toArray, List.set_cons_zero, List.set_cons_succ, List.getElem_toArray, List.getElem_cons_zero, List.getElem_cons_succ]
          (refine wpAnyH_take (i := 35) (v := ?_) rfl (by kernel_rfl) (by kernel_rfl) (by kernel_rfl) (fun _ _ _ h => h) (Or.inl ⟨by rfl, ?_⟩) (by assumption) ?_; rotate_left 1; (focus (intro w' hSw; (try dsimp only at hSw); go_simp; (try with_reducible rfl); done)); try simp only [Act.put, List.setIfInBounds_toArray, List.set_cons_zero, List.set_cons_succ, List.getElem_toArray, List.getElem_cons_zero, List.getElem_cons_succ])
          (refine wpAnyH_take (i := 36) (v := ?_) rfl (by kernel_rfl) (by kernel_rfl) (by kernel_rfl) (fun _ _ _ h => h) (Or.inl ⟨by rfl, ?_⟩) (by assumption) ?_; rotate_left 1; (focus (intro w' hSw; (try dsimp only at hSw); go_simp; (try with_reducible rfl); done)); try simp only [Act.put, List.setIfInBounds_toArray, List.set_cons_zero, List.set_cons_succ, List.getElem_toArray, List.getElem_cons_zero, List.getElem_cons_succ])
          refine wpAnyH_done (by kernel_rfl) ?_ _
          go_wp2
          go_meet
          exact ⟨rfl, Below.trans (Below.refl X.heap.size X).drew hc3⟩
        · obtain ⟨u, rfl⟩ : ∃ u, t = u + 1 := ⟨t - 1, by omega⟩
          obtain ⟨e, he, hbe⟩ := HPR.out u rfl
          obtain ⟨bl', ol', hbl, _, zl0, r0, r1, r2, r3, r4⟩ := (HF2.out.next HB.out).at_ he
          injection hbl with hbl
          injection hbl with hbl1 hbl2
          subst hbl1 hbl2
          have zl : bl < X.drew.heap.size := Nat.lt_of_lt_of_le zl0 hbx.size
          generalize e.sq = e0 at *
          generalize e.bt = e1 at *
          generalize e.fi = e2 at *
          generalize e.la = e3 at *
          generalize e.wo = e4 at *
          replace r0 : X.drew.cell? ⟨bl, ol + u * 5, none⟩ = some (.int .i64 e0) := (hbx.cell (p := ⟨bl, ol + u * 5, none⟩) zl0).trans r0
          replace r1 : X.drew.cell? ⟨bl, ol + u * 5 + 1, none⟩ = some (.int .i64 e1) := (hbx.cell (p := ⟨bl, ol + u * 5 + 1, none⟩) zl0).trans r1
          replace r2 : X.drew.cell? ⟨bl, ol + u * 5 + 2, none⟩ = some (.int .i64 e2) := (hbx.cell (p := ⟨bl, ol + u * 5 + 2, none⟩) zl0).trans r2
          replace r3 : X.drew.cell? ⟨bl, ol + u * 5 + 3, none⟩ = some (.int .i64 e3) := (hbx.cell (p := ⟨bl, ol + u * 5 + 3, none⟩) zl0).trans r3
          replace r4 : X.drew.cell? ⟨bl, ol + u * 5 + 4, none⟩ = some (.int .i64 e4) := (hbx.cell (p := ⟨bl, ol + u * 5 + 4, none⟩) zl0).trans r4
          have HBE := Lib.hid hbe
          have hu1 : IntKind.i64.wrap (u : Int) = u := IntWalk.i64_in _ (by omega)
          have hu2 : 0 ≤ (u : Int) ∧ (u : Int) < li := by omega
          clear hbe he HPR hbx zl0
          refine wp_region_held_drew (S := (fun w' => w'.cell? ⟨BX, 0, none⟩ = some (.int .i64 i0) ∧ w'.cell? ⟨BX, 1, none⟩ = some (.int .i64 i1) ∧ w'.cell? ⟨BX, 2, none⟩ = some (.int .i64 (p : Int)) ∧ w'.cell? ⟨BX, 3, none⟩ = some (.int .i64 i3) ∧ w'.cell? ⟨BX, 4, none⟩ = some (.int .i64 i4) ∧ w'.cell? ⟨SB, 2, none⟩ = some (.slice (some ⟨gb, 0, none⟩) m d') ∧ w'.cell? ⟨gb, p * 3 + 1, none⟩ = some (.int .i64 sst) ∧ w'.cell? ⟨bl, ol + u * 5, none⟩ = some (.int .i64 e0) ∧ w'.cell? ⟨bl, ol + u * 5 + 1, none⟩ = some (.int .i64 e1) ∧ w'.cell? ⟨bl, ol + u * 5 + 2, none⟩ = some (.int .i64 e2) ∧ w'.cell? ⟨bl, ol + u * 5 + 3, none⟩ = some (.int .i64 e3) ∧ w'.cell? ⟨bl, ol + u * 5 + 4, none⟩ = some (.int .i64 e4))) (by kernel_rfl) ?_ (fun hHeld => ?_)
          · exact ⟨p0, p1, p2, p3, p4, y0, y1, r0, r1, r2, r3, r4⟩
          (refine wpAnyH_take (i := 0) (v := ?_) rfl (by kernel_rfl) (by kernel_rfl) (by kernel_rfl) (fun _ _ _ h => h) (Or.inl ⟨by rfl, ?_⟩) (by assumption) ?_; rotate_left 1; (focus (intro w' hSw; (try dsimp only at hSw); go_simp; (try with_reducible rfl); done)); try simp only [Act.put, List.setIfInBounds_toArray, List.set_cons_zero, List.set_cons_succ, List.getElem_toArray, List.getElem_cons_zero])
          (refine wpAnyH_take (i := 1) (v := ?_) rfl (by kernel_rfl) (by kernel_rfl) (by kernel_rfl) (fun _ _ _ h => h) (Or.inl ⟨by rfl, ?_⟩) (by assumption) ?_; rotate_left 1; (focus (intro w' hSw; (try dsimp only at hSw); go_simp; (try with_reducible rfl); done)); try simp only [Act.put, List.setIfInBounds_toArray, List.set_cons_zero, List.set_cons_succ, List.getElem_toArray, List.getElem_cons_zero, List.getElem_cons_succ])
          (refine wpAnyH_take (i := 2) (v := ?_) rfl (by kernel_rfl) (by kernel_rfl) (by kernel_rfl) (fun _ _ _ h => h) (Or.inl ⟨by rfl, ?_⟩) (by assumption) ?_; rotate_left 1; (focus (intro w' hSw; (try dsimp only at hSw); go_simp; (try with_reducible rfl); done)); try simp only [Act.put, List.setIfInBounds_toArray, List.set_cons_zero, List.set_cons_succ, List.getElem_toArray, List.getElem_cons_zero, List.getElem_cons_succ])
          (refine wpAnyH_take (i := 3) (v := ?_) rfl (by kernel_rfl) (by kernel_rfl) (by kernel_rfl) (fun _ _ _ h => h) (Or.inl ⟨by rfl, ?_⟩) (by assumption) ?_; rotate_left 1; (focus (intro w' hSw; (try dsimp only at hSw); go_simp; (try with_reducible rfl); done)); try simp only [Act.put, List.setIfInBounds_toArray, List.set_cons_zero, List.set_cons_succ, List.getElem_toArray, List.getElem_cons_zero, List.getElem_cons_succ])
          (refine wpAnyH_take (i := 4) (v := ?_) rfl (by kernel_rfl) (by kernel_rfl) (by kernel_rfl) (fun _ _ _ h => h) (Or.inl ⟨by rfl, ?_⟩) (by assumption) ?_; rotate_left 1; (focus (intro w' hSw; (try dsimp only at hSw); go_simp; (try with_reducible rfl); done)); try simp only [Act.put, List.setIfInBounds_toArray, List.set_cons_zero, List.set_cons_succ, List.getElem_toArray, List.getElem_cons_zero, List.getElem_cons_succ])
          (refine wpAnyH_take (i := 5) (v := ?_) rfl (by kernel_rfl) (by kernel_rfl) (by kernel_rfl) (fun _ _ _ h => h) (Or.inl ⟨by rfl, ?_⟩) (by assumption) ?_; rotate_left 1; (focus (intro w' hSw; (try dsimp only at hSw); go_simp; (try with_reducible rfl); done)); try simp only [Act.put, List.setIfInBounds_toArray, List.set_cons_zero, List.set_cons_succ, List.getElem_toArray, List.getElem_cons_zero, List.getElem_cons_succ])
          (refine wpAnyH_take (i := 6) (v := ?_) rfl (by kernel_rfl) (by kernel_rfl) (by kernel_rfl) (fun _ _ _ h => h) (Or.inl ⟨by rfl, ?_⟩) (by assumption) ?_; rotate_left 1; (focus (intro w' hSw; (try dsimp only at hSw); go_simp; (try with_reducible rfl); done)); try simp only [Act.put, List.setIfInBounds_toArray, List.set_cons_zero, List.set_cons_succ, List.getElem_toArray, List.getElem_cons_zero, List.getElem_cons_succ])
          (refine wpAnyH_take (i := 7) (v := ?_) rfl (by kernel_rfl) (by kernel_rfl) (by kernel_rfl) (fun _ _ _ h => h) (Or.inl ⟨by rfl, ?_⟩) (by assumption) ?_; rotate_left 1; (focus (intro w' hSw; (try dsimp only at hSw); go_simp; (try with_reducible rfl); done)); try simp only [Act.put, List.setIfInBounds_toArray, List.set_cons_zero, List.set_cons_succ, List.getElem_toArray, List.getElem_cons_zero, List.getElem_cons_succ])
          (refine wpAnyH_take (i := 8) (v := ?_) rfl (by kernel_rfl) (by kernel_rfl) (by kernel_rfl) (fun _ _ _ h => h) (Or.inl ⟨by rfl, ?_⟩) (by assumption) ?_; rotate_left 1; (focus (intro w' hSw; (try dsimp only at hSw); go_simp; (try with_reducible rfl); done)); try simp only [Act.put, List.setIfInBounds_toArray, List.set_cons_zero, List.set_cons_succ, List.getElem_toArray, List.getElem_cons_zero, List.getElem_cons_succ])
          refine wpAnyH_ready (rs := [9]) (by kernel_rfl) (by simp) ?_
          refine AllReadyH.cons rfl (fun K hK => ?_) AllReadyH.nil
          go_simp
          go_at_call 10
          refine (before_any e0 e1 e2 e3 e4 i0 i1 p i3 i4 _).mono ?_
          rintro e W5 ⟨rfl, hb⟩
          rw [HBE.out]
          have hc : Below X.drew.heap.size X.drew W5 := hb
          clear hb
          go_wp2_with fail
          refine hK.out _ _ ⟨(hc.cell (p := ⟨BX, 0, none⟩) zi).trans p0, (hc.cell (p := ⟨BX, 1, none⟩) zi).trans p1, (hc.cell (p := ⟨BX, 2, none⟩) zi).trans p2, (hc.cell (p := ⟨BX, 3, none⟩) zi).trans p3, (hc.cell (p := ⟨BX, 4, none⟩) zi).trans p4, (hc.cell (p := ⟨SB, 2, none⟩) zs).trans y0, (hc.cell (p := ⟨gb, p * 3 + 1, none⟩) zg).trans y1, (hc.cell (p := ⟨bl, ol + u * 5, none⟩) zl).trans r0, (hc.cell (p := ⟨bl, ol + u * 5 + 1, none⟩) zl).trans r1, (hc.cell (p := ⟨bl, ol + u * 5 + 2, none⟩) zl).trans r2, (hc.cell (p := ⟨bl, ol + u * 5 + 3, none⟩) zl).trans r3, (hc.cell (p := ⟨bl, ol + u * 5 + 4, none⟩) zl).trans r4⟩ (fun hHeld2 => ?_)
          clear hK K hHeld
          have hHeld := hHeld2
          clear hHeld2
          try simp only [Act.put, List.setIfInBounds_toArray, List.set_cons_zero, List.set_cons_succ, List.getElem_toArray, List.getElem_cons_zero, List.getElem_cons_succ]
          (refine wpAnyH_take (i := 10) (v := ?_) rfl (by kernel_rfl) (by kernel_rfl) (by kernel_rfl) (fun _ _ _ h => h) (Or.inl ⟨by rfl, ?_⟩) (by assumption) ?_; rotate_left 1; (focus (intro w' hSw; (try dsimp only at hSw); go_simp; (try with_reducible rfl); done)); try simp only [Act.put, List.setIfInBounds_toArray, List.set_cons_zero, List.set_cons_succ, List.getElem_toArray, List.getElem_cons_zero, List.getElem_cons_succ])
          (refine wpAnyH_take (i := 11) (v := ?_) rfl (by kernel_rfl) (by kernel_rfl) (by kernel_rfl) (fun _ _ _ h => h) (Or.inl ⟨by rfl, ?_⟩) (by assumption) ?_; rotate_left 1; (focus (intro w' hSw; (try dsimp only at hSw); go_simp; (try with_reducible rfl); done)); try simp only [Act.put, List.setIfInBounds_toArray, List.set_cons_zero, List.set_cons_succ, List.getElem_toArray, List.getElem_cons_zero, List.getElem_cons_succ])
          (refine wpAnyH_take (i := 12) (v := ?_) rfl (by kernel_rfl) (by kernel_rfl) (by kernel_rfl) (fun _ _ _ h => h) (Or.inl ⟨by rfl, ?_⟩) (by assumption) ?_; rotate_left 1; (focus (intro w' hSw; (try dsimp only at hSw); go_simp; (try with_reducible rfl); done)); try simp only [Act.put, List.setIfInBounds_toArray, List.set_cons_zero, List.set_cons_succ, List.getElem_toArray, List.getElem_cons_zero, List.getElem_cons_succ])
          (refine wpAnyH_take (i := 13) (v := ?_) rfl (by kernel_rfl) (by kernel_rfl) (by kernel_rfl) (fun _ _ _ h => h) (Or.inl ⟨by rfl, ?_⟩) (by assumption) ?_; rotate_left 1; (focus (intro w' hSw; (try dsimp only at hSw); go_simp; (try with_reducible rfl); done)); try simp only [Act.put, List.setIfInBounds_toArray, List.set_cons_zero, List.set_cons_succ, List.getElem_toArray, List.getElem_cons_zero, List.getElem_cons_succ])
          (refine wpAnyH_take (i := 14) (v := ?_) rfl (by kernel_rfl) (by kernel_rfl) (by kernel_rfl) (fun _ _ _ h => h) (Or.inl ⟨by rfl, ?_⟩) (by assumption) ?_; rotate_left 1; (focus (intro w' hSw; (try dsimp only at hSw); go_simp; (try with_reducible rfl); done)); try simp only [Act.put, List.setIfInBounds_toArray, List.set_cons_zero, List.set_cons_succ, List.getElem_toArray, List.getElem_cons_zero, List.getElem_cons_succ])
          (refine wpAnyH_take (i := 15) (v := ?_) rfl (by kernel_rfl) (by kernel_rfl) (by kernel_rfl) (fun _ _ _ h => h) (Or.inl ⟨by rfl, ?_⟩) (by assumption) ?_; rotate_left 1; (focus (intro w' hSw; (try dsimp only at hSw); go_simp; (try with_reducible rfl); done)); try simp only [Act.put, List.setIfInBounds_toArray, List.set_cons_zero, List.set_cons_succ, List.getElem_toArray, List.getElem_cons_zero, List.getElem_cons_succ])
          (refine wpAnyH_take (i := 16) (v := ?_) rfl (by kernel_rfl) (by kernel_rfl) (by kernel_rfl) (fun _ _ _ h => h) (Or.inl ⟨by rfl, ?_⟩) (by assumption) ?_; rotate_left 1; (focus (intro w' hSw; (try dsimp only at hSw); go_simp; (try with_reducible rfl); done)); try simp only [Act.put, List.setIfInBounds_toArray, List.set_cons_zero, List.set_cons_succ, List.getElem_toArray, List.getElem_cons_zero, List.getElem_cons_succ])
          (refine wpAnyH_take (i := 17) (v := ?_) rfl (by kernel_rfl) (by kernel_rfl) (by kernel_rfl) (fun _ _ _ h => h) (Or.inl ⟨by rfl, ?_⟩) (by assumption) ?_; rotate_left 1; (focus (intro w' hSw; (try dsimp only at hSw); go_simp; (try with_reducible rfl); done)); try simp only [Act.put, List.setIfInBounds_toArray, List.set_cons_zero, List.set_cons_succ, List.getElem_toArray, List.getElem_cons_zero, List.getElem_cons_succ])
          (refine wpAnyH_take (i := 18) (v := ?_) rfl (by kernel_rfl) (by kernel_rfl) (by kernel_rfl) (fun _ _ _ h => h) (Or.inl ⟨by rfl, ?_⟩) (by assumption) ?_; rotate_left 1; (focus (intro w' hSw; (try dsimp only at hSw); go_simp; (try with_reducible rfl); done)); try simp only [Act.put, List.setIfInBounds_toArray, List.set_cons_zero, List.set_cons_succ, List.getElem_toArray, List.getElem_cons_zero, List.getElem_cons_succ])
          (refine wpAnyH_take (i := 19) (v := ?_) rfl (by kernel_rfl) (by kernel_rfl) (by kernel_rfl) (fun _ _ _ h => h) (Or.inl ⟨by rfl, ?_⟩) (by assumption) ?_; rotate_left 1; (focus (intro w' hSw; (try dsimp only at hSw); go_simp; (try with_reducible rfl); done)); try simp only [Act.put, List.setIfInBounds_toArray, List.set_cons_zero, List.set_cons_succ, List.getElem_toArray, List.getElem_cons_zero, List.getElem_cons_succ])
          (refine wpAnyH_take (i := 20) (v := ?_) rfl (by kernel_rfl) (by kernel_rfl) (by kernel_rfl) (fun _ _ _ h => h) (Or.inl ⟨by rfl, ?_⟩) (by assumption) ?_; rotate_left 1; (focus (intro w' hSw; (try dsimp only at hSw); go_simp; (try with_reducible rfl); done)); try simp only [Act.put, List.setIfInBounds_toArray, List.set_cons_zero, List.set_cons_succ, List.getElem_toArray, List.getElem_cons_zero, List.getElem_cons_succ])
          (refine wpAnyH_take (i := 21) (v := ?_) rfl (by kernel_rfl) (by kernel_rfl) (by kernel_rfl) (fun _ _ _ h => h) (Or.inl ⟨by rfl, ?_⟩) (by assumption) ?_; rotate_left 1; (focus (intro w' hSw; (try dsimp only at hSw); go_simp; (try with_reducible rfl); done)); try simp only [Act.put, List.setIfInBounds_toArray, List.set_cons_zero, List.set_cons_succ, List.getElem_toArray, List.getElem_cons_zero, List.getElem_cons_succ])
          (refine wpAnyH_take (i := 22) (v := ?_) rfl (by kernel_rfl) (by kernel_rfl) (by kernel_rfl) (fun _ _ _ h => h) (Or.inl ⟨by rfl, ?_⟩) (by assumption) ?_; rotate_left 1; (focus (intro w' hSw; (try dsimp only at hSw); go_simp; (try with_reducible rfl); done)); try simp only [Act.put, List.setIfInBounds_toArray, List.set_cons_zero, List.set_cons_succ, List.getElem_toArray, List.getElem_cons_zero, List.getElem_cons_succ])
          (refine wpAnyH_take (i := 23) (v := ?_) rfl (by kernel_rfl) (by kernel_rfl) (by kernel_rfl) (fun _ _ _ h => h) (Or.inl ⟨by rfl, ?_⟩) (by assumption) ?_; rotate_left 1; (focus (intro w' hSw; (try dsimp only at hSw); go_simp; (try with_reducible rfl); done)); try simp only [Act.put, List.setIfInBounds_toArray, List.set_cons_zero, List.set_cons_succ, List.getElem_toArray, List.getElem_cons_zero, List.getElem_cons_succ])
          (refine wpAnyH_take (i := 24) (v := ?_) rfl (by kernel_rfl) (by kernel_rfl) (by kernel_rfl) (fun _ _ _ h => h) (Or.inl ⟨by rfl, ?_⟩) (by assumption) ?_; rotate_left 1; (focus (intro w' hSw; (try dsimp only at hSw); go_simp; (try with_reducible rfl); done)); try simp only [Act.put, List.setIfInBounds_toArray, List.set_cons_zero, List.set_cons_succ, List.getElem_toArray, List.getElem_cons_zero, List.getElem_cons_succ])
          (refine wpAnyH_take (i := 25) (v := ?_) rfl (by kernel_rfl) (by kernel_rfl) (by kernel_rfl) (fun _ _ _ h => h) (Or.inl ⟨by rfl, ?_⟩) (by assumption) ?_; rotate_left 1; (focus (intro w' hSw; (try dsimp only at hSw); go_simp; (try with_reducible rfl); done)); try simp only [Act.put, List.setIfInBounds_toArray, List.set_cons_zero, List.set_cons_succ, List.getElem_toArray, List.getElem_cons_zero, List.getElem_cons_succ])
          (refine wpAnyH_take (i := 26) (v := ?_) rfl (by kernel_rfl) (by kernel_rfl) (by kernel_rfl) (fun _ _ _ h => h) (Or.inl ⟨by rfl, ?_⟩) (by assumption) ?_; rotate_left 1; (focus (intro w' hSw; (try dsimp only at hSw); go_simp; (try with_reducible rfl); done)); try simp only [Act.put, List.setIfInBounds_toArray, List.set_cons_zero, List.set_cons_succ, List.getElem_toArray, List.getElem_cons_zero, List.getElem_cons_succ])
          (refine wpAnyH_take (i := 27) (v := ?_) rfl (by kernel_rfl) (by kernel_rfl) (by kernel_rfl) (fun _ _ _ h => h) (Or.inl ⟨by rfl, ?_⟩) (by assumption) ?_; rotate_left 1; (focus (intro w' hSw; (try dsimp only at hSw); go_simp; (try with_reducible rfl); done)); try simp only [Act.put, List.setIfInBounds_toArray, List.set_cons_zero, List.set_cons_succ, List.getElem_toArray, List.getElem_cons_zero, List.getElem_cons_succ])
          (refine wpAnyH_take (i := 28) (v := ?_) rfl (by kernel_rfl) (by kernel_rfl) (by kernel_rfl) (fun _ _ _ h => h) (Or.inl ⟨by rfl, ?_⟩) (by assumption) ?_; rotate_left 1; (focus (intro w' hSw; (try dsimp only at hSw); go_simp; (try with_reducible rfl); done)); try simp only [Act.put, List.setIfInBounds_toArray, List.set_cons_zero, List.set_cons_succ, List.getElem_toArray, List.getElem_cons_zero, List.getElem_cons_succ])
          (refine wpAnyH_take (i := 29) (v := ?_) rfl (by kernel_rfl) (by kernel_rfl) (by kernel_rfl) (fun _ _ _ h => h) (Or.inl ⟨by rfl, ?_⟩) (by assumption) ?_; rotate_left 1; (focus (intro w' hSw; (try dsimp only at hSw); go_simp; (try with_reducible rfl); done)); try simp only [Act.put, List.setIfInBounds_toArray, List.set_cons_zero, List.set_cons_succ, List.getElem_toArray, List.getElem_cons_zero, List.getElem_cons_succ])
          (refine wpAnyH_take (i := 30) (v := ?_) rfl (by kernel_rfl) (by kernel_rfl) (by kernel_rfl) (fun _ _ _ h => h) (Or.inl ⟨by rfl, ?_⟩) (by assumption) ?_; rotate_left 1; (focus (intro w' hSw; (try dsimp only at hSw); go_simp; (try with_reducible rfl); done)); try simp only [Act.put, List.setIfInBounds_toArray, List.set_cons_zero, List.set_cons_succ, List.getElem_toArray, List.getElem_cons_zero, List.getElem_cons_succ])
          (refine wpAnyH_take (i := 31) (v := ?_) rfl (by kernel_rfl) (by kernel_rfl) (by kernel_rfl) (fun _ _ _ h => h) (Or.inl ⟨by rfl, ?_⟩) (by assumption) ?_; rotate_left 1; (focus (intro w' hSw; (try dsimp only at hSw); go_simp; (try with_reducible rfl); done)); try simp only [Act.put, List.setIfInBounds_toArray, List.set_cons_zero, List.set_cons_succ, List.getElem_toArray, List.getElem_cons_zero, List.getElem_cons_succ])
          (refine wpAnyH_take (i := 32) (v := ?_) rfl (by kernel_rfl) (by kernel_rfl) (by kernel_rfl) (fun _ _ _ h => h) (Or.inl ⟨by rfl, ?_⟩) (by assumption) ?_; rotate_left 1; (focus (intro w' hSw; (try dsimp only at hSw); go_simp; (try with_reducible rfl); done)); try simp only [Act.put, List.setIfInBounds_toArray, List.set_cons_zero, List.set_cons_succ, List.getElem_toArray, List.getElem_cons_zero, List.getElem_cons_succ])
          (refine wpAnyH_take (i := 33) (v := ?_) rfl (by kernel_rfl) (by kernel_rfl) (by kernel_rfl) (fun _ _ _ h => h) (Or.inl ⟨by rfl, ?_⟩) (by assumption) ?_; rotate_left 1; (focus (intro w' hSw; (try dsimp only at hSw); go_simp; (try with_reducible rfl); done)); try simp only [Act.put, List.setIfInBounds_toArray, List.set_cons_zero, List.set_cons_succ, List.getElem_toArray, List.getElem_cons_zero, List.getElem_cons_succ])
          refine wpAnyH_ready (rs := [34]) (by kernel_rfl) (by simp) ?_
          refine AllReadyH.cons rfl (fun K hK => ?_) AllReadyH.nil
          go_simp
          go_at_call 8
          refine (stamp_any i0 i1 p i3 i4 _).mono ?_
          rintro e W6 ⟨rfl, hb⟩
          rw [HST.out]
          have hc3 : Below X.drew.heap.size X.drew W6 := hc.trans (hb.mono hc.size)
          clear hb
          go_wp2_with fail
          refine hK.out _ _ ⟨(hc3.cell (p := ⟨BX, 0, none⟩) zi).trans p0, (hc3.cell (p := ⟨BX, 1, none⟩) zi).trans p1, (hc3.cell (p := ⟨BX, 2, none⟩) zi).trans p2, (hc3.cell (p := ⟨BX, 3, none⟩) zi).trans p3, (hc3.cell (p := ⟨BX, 4, none⟩) zi).trans p4, (hc3.cell (p := ⟨SB, 2, none⟩) zs).trans y0, (hc3.cell (p := ⟨gb, p * 3 + 1, none⟩) zg).trans y1, (hc3.cell (p := ⟨bl, ol + u * 5, none⟩) zl).trans r0, (hc3.cell (p := ⟨bl, ol + u * 5 + 1, none⟩) zl).trans r1, (hc3.cell (p := ⟨bl, ol + u * 5 + 2, none⟩) zl).trans r2, (hc3.cell (p := ⟨bl, ol + u * 5 + 3, none⟩) zl).trans r3, (hc3.cell (p := ⟨bl, ol + u * 5 + 4, none⟩) zl).trans r4⟩ (fun hHeld2 => ?_)
          clear hK K hHeld
          have hHeld := hHeld2
          clear hHeld2
          try simp only [Act.put, List.setIfInBounds_toArray, List.set_cons_zero, List.set_cons_succ, List.getElem_toArray, List.getElem_cons_zero, List.getElem_cons_succ]
          (refine wpAnyH_take (i := 35) (v := ?_) rfl (by kernel_rfl) (by kernel_rfl) (by kernel_rfl) (fun _ _ _ h => h) (Or.inl ⟨by rfl, ?_⟩) (by assumption) ?_; rotate_left 1; (focus (intro w' hSw; (try dsimp only at hSw); go_simp; (try with_reducible rfl); done)); try simp only [Act.put, List.setIfInBounds_toArray, List.set_cons_zero, List.set_cons_succ, List.getElem_toArray, List.getElem_cons_zero, List.getElem_cons_succ])
          (refine wpAnyH_take (i := 36) (v := ?_) rfl (by kernel_rfl) (by kernel_rfl) (by kernel_rfl) (fun _ _ _ h => h) (Or.inl ⟨by rfl, ?_⟩) (by assumption) ?_; rotate_left 1; (focus (intro w' hSw; (try dsimp only at hSw); go_simp; (try with_reducible rfl); done)); try simp only [Act.put, List.setIfInBounds_toArray, List.set_cons_zero, List.set_cons_succ, List.getElem_toArray, List.getElem_cons_zero, List.getElem_cons_succ])
          refine wpAnyH_done (by kernel_rfl) ?_ _
          go_wp2
          go_meet
          exact ⟨rfl, Below.trans (Below.refl X.heap.size X).drew hc3⟩
      case rest =>
        obtain ⟨rfl, hb⟩ := hcut
        have HBC := Lib.hid (below_next HBB.out (Nat.le_refl _) hb)
        have HROWC := Lib.hid (ownsRow_keep (w' := wc) HROW.out fun g _ _ hl => (Below.trans hbx (hb.mono hbx.size)).block g hl)
        have BIC := BI.next hb
        have x0 := BIC.cell 0
        simp at x0
        have zi : BX < wc.heap.size := BIC.lt
        have HBT := Lib.hid (show (bits BinOp.and IntKind.i64 (z / 2 ^ t) 1 == 1) = bitB z t from rfl)
        clear hb hbx BI BIC
        go_upto_if 78 with fail
        rw [HBT.out]
        obtain ⟨L, hL⟩ : ∃ L, L = (chs (sqF FL) (bitB z) t).length := ⟨_, rfl⟩
        have hLt := chs_len (f := sqF FL) (p := bitB z) t
        rw [← hL] at HROWC hLt
        have HLL := Lib.hid hL
        clear hL
        cases hbit : bitB z t with
        | true =>
          have hchs : chs (sqF FL) (bitB z) (t + 1) = chs (sqF FL) (bitB z) t ++ [i0] := by
            show (if bitB z t then _ else _) = _
            rw [if_pos hbit, HQF.out]
          have hclo : cloB (bitB z) (t + 1) = (cl0 && !gp0) := by
            show (if bitB z t then _ else _) = _
            rw [if_pos hbit, HCL0.out, HGP0.out]
          have hgap : gapB (bitB z) (t + 1) = gp0 := by
            show (gapB (bitB z) t || !bitB z t) = _
            rw [hbit, ← HGP0.out]
            simp
          have HCHS := Lib.hid hchs
          have HCLO := Lib.hid hclo
          have HGAP := Lib.hid hgap
          have hsz2 : V2.heap.size ≤ wc.heap.size := HBC.out.size
          have HR1 := Lib.hid (World.ownsRow.alloc HROWC.out (.cells #[.int .i64 i0] 3))
          have HNEW : Hid (∀ (j : Nat) (u : Value), [Value.int .i64 i0][j]? = some u → (wc.alloc (.cells #[.int .i64 i0] 3)).cell? ((⟨wc.heap.size, 0, none⟩ : Addr).add j) = some u) := Lib.hid (one_news (by go_simp))
          have HM1 := Lib.hid (show L + 1 ≤ maxLen by simp only [maxLen]; omega)
          have HM2 := Lib.hid (show (L + 1) * 8 ≤ 140737488355328 by omega)
          have HBS := Lib.hid (show V2.heap.size ≤ (wc.alloc (.cells #[.int .i64 i0] 3)).heap.size by simp; omega)
          have HBA := Lib.hid (HBC.out.alloc hsz2 (.cells #[.int .i64 i0] 3))
          clear hbit hchs hclo hgap hLt
          go_wp2_with (at_builtin; refine wpList_append_own _ rfl _ _ 31 rfl V2.heap.size 3 n0 _ 1 8 Try.underlying31 hn0 hy0 hy1 hy2 rfl (by decide) u9 L (numC (chs (sqF FL) (bitB z) t)) rfl HR1.out ⟨wc.heap.size, 0, none⟩ 1 1 [Value.int .i64 i0] rfl rfl HNEW.out (by simp [Value.oneCell']) HM1.out HM2.out HBS.out ?_)
          intro v2 w2 hown2 hgr2 _
          have HRN := Lib.hid (show w2.ownsRow V2.heap.size 3 1 v2 (chs (sqF FL) (bitB z) (t + 1)).length (numC (chs (sqF FL) (bitB z) (t + 1))) by rw [HCHS.out, List.length_append, numC_append, ← HLL.out]; exact hown2)
          have HBN : Hid (Below V2.heap.size V2 w2) := Lib.hid (HBA.out.grown hgr2 HBS.out (row_blk HR1.out))
          clear hown2 hgr2
          cases cl0 with
          | true =>
            go_wp2_with fail
            exact ⟨⟨t + 1, by omega, by go_num, by rw [HCLO.out]; rfl, by rw [HGAP.out], HRN.out, HBN.out⟩, by simp [intOf]; omega⟩
          | false =>
            go_wp2_with fail
            exact ⟨⟨t + 1, by omega, by go_num, by rw [HCLO.out]; rfl, by rw [HGAP.out], HRN.out, HBN.out⟩, by simp [intOf]; omega⟩
        | false =>
          have hchs : chs (sqF FL) (bitB z) (t + 1) = chs (sqF FL) (bitB z) t := by
            show (if bitB z t then _ else _) = _
            rw [if_neg (by rw [hbit]; decide)]
          have hclo : cloB (bitB z) (t + 1) = cl0 := by
            show (if bitB z t then _ else _) = _
            rw [if_neg (by rw [hbit]; decide), HCL0.out]
          have hgap : gapB (bitB z) (t + 1) = true := by
            show (gapB (bitB z) t || !bitB z t) = _
            rw [hbit]
            simp
          have HCHS := Lib.hid hchs
          have HCLO := Lib.hid hclo
          have HGAP := Lib.hid hgap
          clear hbit hchs hclo hgap hLt
          go_wp2_with fail
          exact ⟨⟨t + 1, by omega, by go_num, by rw [HCLO.out], by rw [HGAP.out], by rw [HCHS.out, ← HLL.out]; exact HROWC.out, HBC.out⟩, by simp [intOf]; omega⟩
    · have hlt2 : ¬ (t : Int) < li := by omega
      have hte : t = li := by omega
      rw [hte] at HROW HCL0
      clear hte
      obtain ⟨SA, SC, rfl, hsa⟩ := sarr_of HROW.out
      have hln := chs_len (f := sqF FL) (p := bitB z) li
      have hflt : FL.length ≤ 4096 := by rw [HLF.out]; omega
      have HB3 := Lib.hid (below_next HB2.out (Nat.le_refl _) HB.out)
      rw [HLF.out] at HPB
      go_wp2_with fail
      refine (prefixO_at QA QC 3 (qOf I) FL SA SC _ (chs (sqF FL) (bitB z) li) wr rfl HFL.out rfl (HQ2.out.next HB.out) hsa.lt hflt (by omega)).mono ?_
      rintro e W3 ⟨b, rfl, hbp, hb⟩
      have hbc : b = cl0 := by
        rw [HCL0.out, Bool.eq_iff_iff, hbp]
        exact HPB.out
      subst hbc
      have HB4 := Lib.hid (below_next HB3.out (Nat.le_refl _) hb)
      clear hb hbp
      go_wp2_with fail
      refine (awake15_any _).mono ?_
      rintro e w2 ⟨rfl, hb⟩
      have HB5 := Lib.hid (below_next HB4.out (Nat.le_refl _) hb)
      clear hb
      go_wp2
      go_ret
      exact ⟨rfl, HB5.out⟩
end Go.Proofs.Ytlafkkekfkamoaa
