/-
  Contracts of package object: decode, locate, read, Shape, Ref, Data.
-/
import Derived.Test.YthcfcciemjkilaaObj
namespace Go.Proofs.Ythcfcciemjkilaa
open Go.RowKit
set_option maxRecDepth 100000
set_option linter.unusedVariables false

def DecOut (s : Int) (A : Option Addr) (nw c : Nat) (A' : Option Addr) (n c' : Nat) (wd : Nat → Int) (F : Nat → Fr) (a : Int) (w : World) (e : Ending) (w' : World) : Prop :=
  (∃ y : Int, shpE s nw wd n F a = y ∧ y ≠ 0 ∧ e = .returned (.tuple #[zObj, .int .i64 y]) ∧ Below w.heap.size w w') ∨
  (shpE s nw wd n F a = 0 ∧ e = .returned (.tuple #[ObjV s A nw c A' n c' a (shpR s nw wd n F a) (shpD s nw wd n F a), .int .i64 0]) ∧ Below w.heap.size w w')

set_option maxHeartbeats 4000000 in
theorem objDec_any (s : Int) (A A' : Option Addr) (nw c n c' : Nat) (wd : Nat → Int) (F : Nat → Fr) (a : Int) (w : World) (hA : Arr w w.heap.size A nw c wd) (hT : Tab w w.heap.size A' n c' F) (hu : U64w nw wd)
    (a0 : -9223372036854775808 ≤ a) (a1 : a ≤ 9223372036854775807) :
    Calls Try.prog 62 #[.agg #[.int .i64 s, .slice A nw c, .slice A' n c'], .int .i64 a] w (DecOut s A nw c A' n c' wd F a w) := by
  obtain ⟨U, hU⟩ : ∃ U, U = (w.alloc (.cells #[.int .i64 s, .slice A nw c, .slice A' n c'] 25)).alloc (.cells #[.int .i64 0, .slice none 0 0, .slice none 0 0, .int .i64 0, .int .i64 0, .int .i64 0] 96) := ⟨_, rfl⟩
  have BU : Blk U w.heap.size 25 #[.int .i64 s, .slice A nw c, .slice A' n c'] := by rw [hU]; exact (Blk.new _ _ _).alloc _
  have BR : Blk U (w.heap.size + 1) 96 #[.int .i64 0, .slice none 0 0, .slice none 0 0, .int .i64 0, .int .i64 0, .int .i64 0] := by rw [hU]; exact Blk.newAt _ _ _ _ (by simp)
  have HBU : Hid (Below w.heap.size w U) := by rw [hU]; exact ((Below.refl _ _).alloc (Nat.le_refl _) _).alloc (by simp) _
  have HU := Lib.hid hU
  have HA := Lib.hid (hA.next HBU.out)
  have HT := Lib.hid (hT.next HBU.out)
  have c1 := step5_any s A A' nw c n c' wd F a 0 U HA.out HT.out a0 a1 (by decide) (by decide)
  have p0 := BU.cell 0
  have p1 := BU.cell 1
  have p2 := BU.cell 2
  have pz := BU.lt
  simp at p0 p1 p2
  clear hA hT hU
  by_cases h0 : stpE s nw wd n F a 0 = 0
  · have hvp := validB_of (stp_iff.1 h0).1
    obtain ⟨s0, _⟩ := shB_yes hvp.1
    obtain ⟨K, rfl⟩ := Int.eq_ofNat_of_zero_le (show 0 ≤ s by omega)
    obtain ⟨P, hP, hlt⟩ := stp_nat h0
    rw [h0, hP] at c1
    rw [stp_self h0] at hP
    subst hP
    obtain ⟨n2, n64, nw0, nw1⟩ := sp_bounds hvp
    obtain ⟨b, o, rfl, hb, hc⟩ := HA.out.at_ P hlt
    obtain ⟨hx0, hx1⟩ := hu P hlt
    obtain ⟨x, hx⟩ : ∃ x, x = wd P := ⟨_, rfl⟩
    rw [← hx] at hc hx0 hx1
    have c2 := Hd.dec_any x hx0 hx1
    have hr := Hd.dec_range x hx0
    have pi : 0 ≤ (P : Int) ∧ (P : Int) < nw := by omega
    have X := Lib.hid (show wd (P : Int).toNat = x by rw [Int.toNat_natCast]; exact hx.symm)
    obtain ⟨R, hR⟩ : ∃ R, R = Hd.decR x := ⟨_, rfl⟩
    obtain ⟨D, hD⟩ : ∃ D, D = Hd.decD x := ⟨_, rfl⟩
    obtain ⟨Ad, hAd⟩ : ∃ A, A = Hd.decA x := ⟨_, rfl⟩
    obtain ⟨M, hM⟩ : ∃ M, M = Hd.isF x := ⟨_, rfl⟩
    obtain ⟨E, hE⟩ : ∃ E, E = Hd.decE x := ⟨_, rfl⟩
    rw [← hR, ← hD, ← hAd, ← hM, ← hE] at c2
    rw [← hR, ← hD, ← hAd] at hr
    obtain ⟨hr0, hr1, hd0, hd1, _⟩ := hr
    have zb : b < U.heap.size := hb
    clear hb hx0 hx1
    by_cases hbad : E ≠ 0 ∨ M = true
    · obtain ⟨e1, e2, e3⟩ := shp_head (s := K) h0 (by rw [X.out, ← hE, ← hM]; exact hbad)
      have HE1 := Lib.hid e1
      clear e1 e2 e3 h0 hx hR hD hAd hM hE hvp
      by_cases hE0 : E = 0
      · have hM1 : M = true := by rcases hbad with h | h; exact absurd hE0 h; exact h
        subst hE0 hM1
        clear hbad
        go_enter Try.func62, Try.ntmps62
        go_wp2_with fail
        rw [← HU.out]
        refine c1.mono ?_
        rintro e U1 ⟨rfl, hb1⟩
        have BU1 := BU.next hb1
        have BR1 := BR.next hb1
        have hc1 := (hb1.cell (p := ⟨b, o + P, none⟩) zb).trans hc
        have HB1 := Lib.hid (below_next HBU.out (Nat.le_refl _) hb1)
        have q0 := BU1.cell 0
        have q1 := BU1.cell 1
        have q2 := BU1.cell 2
        have qz := BU1.lt
        have zb1 : b < U1.heap.size := Nat.lt_of_lt_of_le zb hb1.size
        simp at q0 q1 q2
        clear hb1 p0 p1 p2
        go_wp2_with fail
        refine (c2 _).mono ?_
        rintro e w' ⟨rfl, rfl⟩
        have s0 := BR1.cell 0
        have s1 := BR1.cell 1
        have s2 := BR1.cell 2
        have s3 := BR1.cell 3
        have s4 := BR1.cell 4
        have s5 := BR1.cell 5
        have f0 := BR1.frozen 0
        have f1 := BR1.frozen 1
        have f2 := BR1.frozen 2
        have f3 := BR1.frozen 3
        have f4 := BR1.frozen 4
        have f5 := BR1.frozen 5
        have rz := BR1.lt
        simp at s0 s1 s2 s3 s4 s5
        go_wp2_with fail
        refine bodyPost_ret (v := .tuple #[.agg #[.int .i64 0, .slice none 0 0, .slice none 0 0, .int .i64 0, .int .i64 0, .int .i64 0], .int .i64 12]) (by simp [results, Try.results62, go_sem, s0, s1, s2, s3, s4, s5]) rfl (.inl ⟨12, HE1.out, by decide, rfl, below_put6 HB1.out (by omega) _ _ _ _ _ _⟩)
      · have hne : (E != 0) = true := by simpa using hE0
        clear hbad hE0
        go_enter Try.func62, Try.ntmps62
        go_wp2_with fail
        rw [← HU.out]
        refine c1.mono ?_
        rintro e U1 ⟨rfl, hb1⟩
        have BU1 := BU.next hb1
        have BR1 := BR.next hb1
        have hc1 := (hb1.cell (p := ⟨b, o + P, none⟩) zb).trans hc
        have HB1 := Lib.hid (below_next HBU.out (Nat.le_refl _) hb1)
        have q0 := BU1.cell 0
        have q1 := BU1.cell 1
        have q2 := BU1.cell 2
        have qz := BU1.lt
        have zb1 : b < U1.heap.size := Nat.lt_of_lt_of_le zb hb1.size
        simp at q0 q1 q2
        clear hb1 p0 p1 p2
        go_wp2_with fail
        refine (c2 _).mono ?_
        rintro e w' ⟨rfl, rfl⟩
        have s0 := BR1.cell 0
        have s1 := BR1.cell 1
        have s2 := BR1.cell 2
        have s3 := BR1.cell 3
        have s4 := BR1.cell 4
        have s5 := BR1.cell 5
        have f0 := BR1.frozen 0
        have f1 := BR1.frozen 1
        have f2 := BR1.frozen 2
        have f3 := BR1.frozen 3
        have f4 := BR1.frozen 4
        have f5 := BR1.frozen 5
        have rz := BR1.lt
        simp at s0 s1 s2 s3 s4 s5
        go_wp2_with fail
        refine bodyPost_ret (v := .tuple #[.agg #[.int .i64 0, .slice none 0 0, .slice none 0 0, .int .i64 0, .int .i64 0, .int .i64 0], .int .i64 12]) (by simp [results, Try.results62, go_sem, s0, s1, s2, s3, s4, s5]) rfl (.inl ⟨12, HE1.out, by decide, rfl, below_put6 HB1.out (by omega) _ _ _ _ _ _⟩)
    · obtain rfl : E = 0 := Decidable.not_not.1 (fun h => hbad (.inl h))
      obtain rfl : M = false := by
        cases M
        · rfl
        · exact absurd (.inr rfl) hbad
      have hE1 : Hd.decE (wd (P : Int).toNat) = 0 := by rw [X.out, ← hE]
      have hM1 : Hd.isF (wd (P : Int).toNat) = false := by rw [X.out, ← hM]
      have hRD : Hd.decR (wd (P : Int).toNat) + Hd.decD (wd (P : Int).toNat) = R + D := by rw [X.out, ← hR, ← hD]
      have PL : ∀ W, Below U.heap.size U W → Calls Try.prog 72 #[.agg #[.int .i64 K, .slice (some ⟨b, o, none⟩) nw c, .slice A' n c'], .int .i64 P, .int .i64 R, .int .i64 D] W (PlaceOut K (some ⟨b, o, none⟩) nw c A' n c' wd F P R D W) := fun W hW =>
        objPlace_any K _ A' nw c n c' wd F P R D W (HA.out.next hW) (HT.out.next hW) (by omega) (by omega) hr0 hr1 hd0 hd1
      have HPL := Lib.hid PL
      have H0 := Lib.hid h0
      have HE1 := Lib.hid hE1
      have HM1 := Lib.hid hM1
      have HRD := Lib.hid hRD
      have HRR := Lib.hid hR
      have HDD := Lib.hid hD
      clear hx hR hD hAd hM hE hE1 hM1 hRD h0 hbad PL hvp
      go_enter Try.func62, Try.ntmps62
      go_wp2_with fail
      rw [← HU.out]
      refine c1.mono ?_
      rintro e U1 ⟨rfl, hb1⟩
      have BU1 := BU.next hb1
      have hc1 := (hb1.cell (p := ⟨b, o + P, none⟩) zb).trans hc
      have HBB := Lib.hid hb1
      have q0 := BU1.cell 0
      have q1 := BU1.cell 1
      have q2 := BU1.cell 2
      have qz := BU1.lt
      have zb1 : b < U1.heap.size := Nat.lt_of_lt_of_le zb hb1.size
      simp at q0 q1 q2
      clear hb1 p0 p1 p2
      go_wp2_with fail
      refine (c2 _).mono ?_
      rintro e w' ⟨rfl, rfl⟩
      go_wp2_with fail
      refine (HPL.out _ HBB.out).mono ?_
      rintro e U2 (⟨y, h1, h2, rfl, hb2⟩ | ⟨h1, rfl, hb2⟩)
      · have hy : y = 2 := by
          rcases stp_more H0.out (show 0 ≤ R + D by omega) with h | h
          · exact absurd (h1.symm.trans h) h2
          · exact h1.symm.trans h
        subst hy
        obtain ⟨e1, _, _⟩ := shp_end (s := K) H0.out HE1.out HM1.out (by rw [HRD.out]; exact h1)
        have HEE := Lib.hid e1
        have BR2 := BR.next (below_next HBB.out (Nat.le_refl _) hb2)
        have HB2 := Lib.hid (below_next HBU.out (Nat.le_refl _) (below_next HBB.out (Nat.le_refl _) hb2))
        have s0 := BR2.cell 0
        have s1 := BR2.cell 1
        have s2 := BR2.cell 2
        have s3 := BR2.cell 3
        have s4 := BR2.cell 4
        have s5 := BR2.cell 5
        have f0 := BR2.frozen 0
        have f1 := BR2.frozen 1
        have f2 := BR2.frozen 2
        have f3 := BR2.frozen 3
        have f4 := BR2.frozen 4
        have f5 := BR2.frozen 5
        have rz := BR2.lt
        simp at s0 s1 s2 s3 s4 s5
        unfold zObj
        clear h1 h2 hb2 e1 q0 q1 q2
        go_wp2_with fail
        refine bodyPost_ret (v := .tuple #[.agg #[.int .i64 0, .slice none 0 0, .slice none 0 0, .int .i64 0, .int .i64 0, .int .i64 0], .int .i64 2]) (by simp [results, Try.results62, go_sem, s0, s1, s2, s3, s4, s5]) rfl (.inl ⟨2, HEE.out, by decide, rfl, below_put6 HB2.out (by omega) _ _ _ _ _ _⟩)
      · obtain ⟨e1, e2, e3⟩ := shp_ok (s := K) H0.out HE1.out HM1.out (by rw [HRD.out]; exact h1)
        rw [X.out, ← HRR.out] at e2
        rw [X.out, ← HDD.out] at e3
        have HEE := Lib.hid e1
        have HE2 := Lib.hid e2
        have HE3 := Lib.hid e3
        have BR2 := BR.next (below_next HBB.out (Nat.le_refl _) hb2)
        have HB2 := Lib.hid (below_next HBU.out (Nat.le_refl _) (below_next HBB.out (Nat.le_refl _) hb2))
        have s0 := BR2.cell 0
        have s1 := BR2.cell 1
        have s2 := BR2.cell 2
        have s3 := BR2.cell 3
        have s4 := BR2.cell 4
        have s5 := BR2.cell 5
        have f0 := BR2.frozen 0
        have f1 := BR2.frozen 1
        have f2 := BR2.frozen 2
        have f3 := BR2.frozen 3
        have f4 := BR2.frozen 4
        have f5 := BR2.frozen 5
        have rz := BR2.lt
        simp at s0 s1 s2 s3 s4 s5
        unfold ObjV
        clear h1 hb2 e1 e2 e3 q0 q1 q2
        go_wp2_with fail
        refine bodyPost_ret (v := .tuple #[.agg #[.int .i64 K, .slice (some ⟨b, o, none⟩) nw c, .slice A' n c', .int .i64 P, .int .i64 R, .int .i64 D], .int .i64 0]) (by simp [results, Try.results62, go_sem, s0, s1, s2, s3, s4, s5]) rfl (.inr ⟨HEE.out, by rw [HE2.out, HE3.out]; rfl, below_put6 HB2.out (by omega) _ _ _ _ _ _⟩)
  · obtain ⟨e1, _, _⟩ := shp_step h0
    obtain ⟨y, hy⟩ : ∃ y, y = stpE s nw wd n F a 0 := ⟨_, rfl⟩
    obtain ⟨v, hv⟩ : ∃ v, v = stpV s nw wd n F a 0 := ⟨_, rfl⟩
    rw [← hy] at h0 c1 e1
    rw [← hv] at c1
    have hne : (y != 0) = true := by simpa using h0
    have HE1 := Lib.hid e1
    have H0 := Lib.hid h0
    clear e1 hy hv h0
    go_enter Try.func62, Try.ntmps62
    go_wp2_with fail
    rw [← HU.out]
    refine c1.mono ?_
    rintro e U1 ⟨rfl, hb1⟩
    have BR1 := BR.next hb1
    have HB1 := Lib.hid (below_next HBU.out (Nat.le_refl _) hb1)
    have s0 := BR1.cell 0
    have s1 := BR1.cell 1
    have s2 := BR1.cell 2
    have s3 := BR1.cell 3
    have s4 := BR1.cell 4
    have s5 := BR1.cell 5
    have f0 := BR1.frozen 0
    have f1 := BR1.frozen 1
    have f2 := BR1.frozen 2
    have f3 := BR1.frozen 3
    have f4 := BR1.frozen 4
    have f5 := BR1.frozen 5
    have rz := BR1.lt
    simp at s0 s1 s2 s3 s4 s5
    clear hb1 p0 p1 p2
    go_wp2_with fail
    refine bodyPost_ret (v := .tuple #[.agg #[.int .i64 0, .slice none 0 0, .slice none 0 0, .int .i64 0, .int .i64 0, .int .i64 0], .int .i64 y]) (by simp [results, Try.results62, go_sem, s0, s1, s2, s3, s4, s5]) rfl (.inl ⟨y, HE1.out, H0.out, rfl, below_put6 HB1.out (by omega) _ _ _ _ _ _⟩)

set_option maxHeartbeats 2000000 in
theorem objShape_any (s : Int) (A A' : Option Addr) (nw c n c' : Nat) (wd : Nat → Int) (F : Nat → Fr) (a : Int) (w : World) (hA : Arr w w.heap.size A nw c wd) (hT : Tab w w.heap.size A' n c' F) (hu : U64w nw wd)
    (a0 : -9223372036854775808 ≤ a) (a1 : a ≤ 9223372036854775807) :
    Calls Try.prog 43 #[.agg #[.int .i64 s, .slice A nw c, .slice A' n c'], .int .i64 a] w (Gives3 (shpR s nw wd n F a) (shpD s nw wd n F a) (shpE s nw wd n F a) w) := by
  obtain ⟨U, hU⟩ : ∃ U, U = w.alloc (.cells #[.int .i64 s, .slice A nw c, .slice A' n c'] 25) := ⟨_, rfl⟩
  have BU : Blk U w.heap.size 25 #[.int .i64 s, .slice A nw c, .slice A' n c'] := by rw [hU]; exact Blk.new _ _ _
  have HBU : Hid (Below w.heap.size w U) := by rw [hU]; exact (Below.refl _ _).alloc (Nat.le_refl _) _
  have HU := Lib.hid hU
  have c1 := objDec_any s A A' nw c n c' wd F a U (hA.next HBU.out) (hT.next HBU.out) hu a0 a1
  have p0 := BU.cell 0
  have p1 := BU.cell 1
  have p2 := BU.cell 2
  have pz := BU.lt
  simp at p0 p1 p2
  have HS := Lib.hid (show shpE s nw wd n F a ≠ 0 → shpR s nw wd n F a = 0 ∧ shpD s nw wd n F a = 0 from fun h => ⟨by unfold shpR; rw [if_neg h], by unfold shpD; rw [if_neg h]⟩)
  clear hA hT hU
  go_enter Try.func43, Try.ntmps43
  go_wp2_with fail
  rw [← HU.out]
  refine c1.mono ?_
  rintro e U1 (⟨y, h1, h2, rfl, hb1⟩ | ⟨h1, rfl, hb1⟩)
  · obtain ⟨e2, e3⟩ := HS.out (by rw [h1]; exact h2)
    have E1 := Lib.hid h1
    have E2 := Lib.hid e2
    have E3 := Lib.hid e3
    unfold zObj
    have HB1 := Lib.hid (below_next HBU.out (Nat.le_refl _) hb1)
    clear h1 h2 e2 e3 hb1 p0 p1 p2 HS
    go_wp2_with fail
    go_quiet (fail)
    go_wp2
    exact bodyPost_ret (v := .tuple #[.int .i64 0, .int .i64 0, .int .i64 y]) (by simp [results, Try.results43, go_sem]) rfl ⟨ret3 E2.out.symm E3.out.symm E1.out.symm, after_drawn _ (HB1.out.alloc HB1.out.size _)⟩
  · have E1 := Lib.hid h1
    unfold ObjV
    obtain ⟨R, hR⟩ : ∃ R, R = shpR s nw wd n F a := ⟨_, rfl⟩
    obtain ⟨D, hD⟩ : ∃ D, D = shpD s nw wd n F a := ⟨_, rfl⟩
    rw [← hR, ← hD]
    have E2 := Lib.hid hR
    have E3 := Lib.hid hD
    have HB1 := Lib.hid (below_next HBU.out (Nat.le_refl _) hb1)
    clear h1 hb1 p0 p1 p2 HS hR hD
    go_wp2_with fail
    go_quiet (fail)
    go_wp2
    exact bodyPost_ret (v := .tuple #[.int .i64 R, .int .i64 D, .int .i64 0]) (by simp [results, Try.results43, go_sem]) rfl ⟨ret3 E2.out E3.out E1.out.symm, after_drawn _ (HB1.out.alloc HB1.out.size _)⟩
end Go.Proofs.Ythcfcciemjkilaa
