/-
  Contracts of the reference of layer 8: Look, Fields, Place, get, set, for whatever valid space; its exported functions for every raw space.
-/
import Derived.Test.YthcfcciemjkilaaMR8
namespace Go.Proofs.Ythcfcciemjkilaa
open Go.RowKit
set_option maxRecDepth 100000
set_option linter.unusedVariables false

def GivesW (x y : Int) (w : World) (e : Ending) (w' : World) : Prop := e = .returned (.tuple #[.int .u64 x, .int .i64 y]) ∧ Below w.heap.size w w'
theorem sp_bounds {K nw n : Nat} {wd : Nat → Int} {F : Nat → Fr} (hv : ValidP K nw wd n F) : 2 ≤ n ∧ n ≤ 64 ∧ 0 < nw ∧ nw ≤ 16384 := by
  obtain ⟨n2, n64⟩ := nfB_yes hv.2.1
  obtain ⟨_, k8⟩ := shB_yes hv.1
  have h := hv.2.2.1
  rw [Int.toNat_natCast] at h
  have h1 := prod_le (show n ≤ 64 by omega) (show K ≤ 8 by omega)
  have h2 : 0 < n * 2 ^ K := Nat.mul_pos (by omega) (Nat.two_pow_pos K)
  omega

set_option maxHeartbeats 4000000 in
theorem refLook_any (K : Nat) (A A' : Option Addr) (nw c n c' : Nat) (wd : Nat → Int) (F : Nat → Fr) (a : Int) (w : World) (hA : Arr w w.heap.size A nw c wd) (hT : Tab w w.heap.size A' n c' F) (hv : ValidP K nw wd n F) (hu : U64w nw wd) :
    Calls Try.prog 32 #[.agg #[.int .i64 K, .slice A nw c, .slice A' n c'], .int .i64 a] w (Gives3 (shpR K nw wd n F a) (shpD K nw wd n F a) (shpE K nw wd n F a) w) := by
  obtain ⟨n2, n64, nw0, nw1⟩ := sp_bounds hv
  obtain ⟨U, hU⟩ : ∃ U, U = w.alloc (.cells #[.int .i64 K, .slice A nw c, .slice A' n c'] 25) := ⟨_, rfl⟩
  have BU : Blk U w.heap.size 25 #[.int .i64 K, .slice A nw c, .slice A' n c'] := by rw [hU]; exact Blk.new _ _ _
  have HBU : Hid (Below w.heap.size w U) := by rw [hU]; exact (Below.refl _ _).alloc (Nat.le_refl _) _
  have HU := Lib.hid hU
  have HA := Lib.hid (hA.next HBU.out)
  have HT := Lib.hid (hT.next HBU.out)
  have HV := Lib.hid hv
  have g1 := refGo5_any K A A' nw c n c' wd F a 0 U HT.out hv (by decide) (by decide)
  have p0 := BU.cell 0
  have p1 := BU.cell 1
  have p2 := BU.cell 2
  have pz := BU.lt
  simp at p0 p1 p2
  clear hA hT hU hv
  by_cases h0 : stpE K nw wd n F a 0 = 0
  · rw [h0] at g1
    obtain ⟨P, hP, hlt⟩ := stp_nat h0
    rw [stp_self h0] at hP
    subst hP
    obtain ⟨b, o, rfl, hb, hc⟩ := HA.out.at_ P hlt
    obtain ⟨hx0, hx1⟩ := hu P hlt
    obtain ⟨x, hx⟩ : ∃ x, x = wd P := ⟨_, rfl⟩
    rw [← hx] at hc hx0 hx1
    have c2 := Hd.refDec_any x hx0 hx1
    have hr := Hd.dec_range x hx0
    have pi : 0 ≤ (P : Int) ∧ (P : Int) < nw := by omega
    have X := Lib.hid (show wd (P : Int).toNat = x by rw [Int.toNat_natCast]; exact hx.symm)
    have H0 := Lib.hid h0
    obtain ⟨R, hR⟩ : ∃ R, R = Hd.decR x := ⟨_, rfl⟩
    obtain ⟨D, hD⟩ : ∃ D, D = Hd.decD x := ⟨_, rfl⟩
    obtain ⟨Ad, hAd⟩ : ∃ A, A = Hd.decA x := ⟨_, rfl⟩
    obtain ⟨M, hM⟩ : ∃ M, M = Hd.isF x := ⟨_, rfl⟩
    obtain ⟨E, hE⟩ : ∃ E, E = Hd.decE x := ⟨_, rfl⟩
    rw [← hR, ← hD, ← hAd, ← hM, ← hE] at c2
    rw [← hR, ← hD, ← hAd] at hr
    obtain ⟨hr0, hr1, hd0, hd1, _⟩ := hr
    have GO : ∀ W, Below U.heap.size U W → Calls Try.prog 49 #[.agg #[.int .i64 K, .slice (some ⟨b, o, none⟩) nw c, .slice A' n c'], .int .i64 P, .int .i64 (R + D)] W (Gives2 (stpV K nw wd n F P (R + D)) (stpE K nw wd n F P (R + D)) W) := fun W hW =>
      refGo5_any K _ A' nw c n c' wd F P (R + D) W (HT.out.next hW) HV.out (by omega) (by omega)
    have HGO := Lib.hid GO
    have zb : b < U.heap.size := hb
    clear hb hx0 hx1 GO
    by_cases hbad : E ≠ 0 ∨ M = true
    · obtain ⟨e1, e2, e3⟩ := shp_head (s := K) h0 (by rw [X.out, ← hE, ← hM]; exact hbad)
      rw [e1, e2, e3]
      clear e1 e2 e3 h0 hx hR hD hAd hM hE
      by_cases hE0 : E = 0
      · have hM1 : M = true := by rcases hbad with h | h; exact absurd hE0 h; exact h
        subst hE0 hM1
        clear hbad
        go_enter Try.func32, Try.ntmps32
        go_wp2_with fail
        rw [← HU.out]
        refine g1.mono ?_
        rintro e U1 ⟨rfl, hb1⟩
        have BU1 := BU.next hb1
        have hc1 := (hb1.cell (p := ⟨b, o + P, none⟩) zb).trans hc
        have HB1 := Lib.hid (below_next HBU.out (Nat.le_refl _) hb1)
        have q0 := BU1.cell 0
        have q1 := BU1.cell 1
        have q2 := BU1.cell 2
        have qz := BU1.lt
        have zb1 : b < U1.heap.size := Nat.lt_of_lt_of_le zb hb1.size
        simp at q0 q1 q2
        clear hb1 p0 p1 p2
        go_wp2_with fail
        refine (c2 _).mono ?_
        rintro e w' ⟨rfl, rfl⟩
        go_wp2_with fail
        go_ret3
        exact ⟨rfl, HB1.out⟩
      · have hne : (E != 0) = true := by simpa using hE0
        clear hbad hE0
        go_enter Try.func32, Try.ntmps32
        go_wp2_with fail
        rw [← HU.out]
        refine g1.mono ?_
        rintro e U1 ⟨rfl, hb1⟩
        have BU1 := BU.next hb1
        have hc1 := (hb1.cell (p := ⟨b, o + P, none⟩) zb).trans hc
        have HB1 := Lib.hid (below_next HBU.out (Nat.le_refl _) hb1)
        have q0 := BU1.cell 0
        have q1 := BU1.cell 1
        have q2 := BU1.cell 2
        have qz := BU1.lt
        have zb1 : b < U1.heap.size := Nat.lt_of_lt_of_le zb hb1.size
        simp at q0 q1 q2
        clear hb1 p0 p1 p2
        go_wp2_with fail
        refine (c2 _).mono ?_
        rintro e w' ⟨rfl, rfl⟩
        go_wp2_with fail
        go_ret3
        exact ⟨rfl, HB1.out⟩
    · obtain rfl : E = 0 := Decidable.not_not.1 (fun h => hbad (.inl h))
      obtain rfl : M = false := by
        cases M
        · rfl
        · exact absurd (.inr rfl) hbad
      have hE1 : Hd.decE (wd (P : Int).toNat) = 0 := by rw [X.out, ← hE]
      have hM1 : Hd.isF (wd (P : Int).toNat) = false := by rw [X.out, ← hM]
      have hRD : Hd.decR (wd (P : Int).toNat) + Hd.decD (wd (P : Int).toNat) = R + D := by rw [X.out, ← hR, ← hD]
      rcases stp_more h0 (show 0 ≤ R + D by omega) with h1 | h1
      · obtain ⟨e1, e2, e3⟩ := shp_ok (s := K) h0 hE1 hM1 (by rw [hRD]; exact h1)
        rw [X.out, ← hR] at e2
        rw [X.out, ← hD] at e3
        rw [e1, e2, e3]
        have G2 := HGO.out
        rw [h1] at G2
        obtain ⟨V, hV⟩ : ∃ V, V = stpV K nw wd n F P (R + D) := ⟨_, rfl⟩
        rw [← hV] at G2
        have HG2 := Lib.hid G2
        clear e1 e2 e3 h0 hx hR hD hAd hM hE hE1 hM1 hRD h1 hbad G2 HGO hV
        go_enter Try.func32, Try.ntmps32
        go_wp2_with fail
        rw [← HU.out]
        refine g1.mono ?_
        rintro e U1 ⟨rfl, hb1⟩
        have BU1 := BU.next hb1
        have hc1 := (hb1.cell (p := ⟨b, o + P, none⟩) zb).trans hc
        have HBB := Lib.hid hb1
        have q0 := BU1.cell 0
        have q1 := BU1.cell 1
        have q2 := BU1.cell 2
        have qz := BU1.lt
        have zb1 : b < U1.heap.size := Nat.lt_of_lt_of_le zb hb1.size
        simp at q0 q1 q2
        clear hb1 p0 p1 p2
        go_wp2_with fail
        refine (c2 _).mono ?_
        rintro e w' ⟨rfl, rfl⟩
        go_wp2_with fail
        refine (HG2.out _ HBB.out).mono ?_
        rintro e U2 ⟨rfl, hb2⟩
        go_wp2_with fail
        go_ret3
        exact ⟨rfl, below_next HBU.out (Nat.le_refl _) (below_next HBB.out (Nat.le_refl _) hb2)⟩
      · obtain ⟨e1, e2, e3⟩ := shp_end (s := K) h0 hE1 hM1 (by rw [hRD]; exact h1)
        rw [e1, e2, e3]
        have G2 := HGO.out
        rw [h1] at G2
        obtain ⟨V, hV⟩ : ∃ V, V = stpV K nw wd n F P (R + D) := ⟨_, rfl⟩
        rw [← hV] at G2
        have HG2 := Lib.hid G2
        clear e1 e2 e3 h0 hx hR hD hAd hM hE hE1 hM1 hRD h1 hbad G2 HGO hV
        go_enter Try.func32, Try.ntmps32
        go_wp2_with fail
        rw [← HU.out]
        refine g1.mono ?_
        rintro e U1 ⟨rfl, hb1⟩
        have BU1 := BU.next hb1
        have hc1 := (hb1.cell (p := ⟨b, o + P, none⟩) zb).trans hc
        have HBB := Lib.hid hb1
        have q0 := BU1.cell 0
        have q1 := BU1.cell 1
        have q2 := BU1.cell 2
        have qz := BU1.lt
        have zb1 : b < U1.heap.size := Nat.lt_of_lt_of_le zb hb1.size
        simp at q0 q1 q2
        clear hb1 p0 p1 p2
        go_wp2_with fail
        refine (c2 _).mono ?_
        rintro e w' ⟨rfl, rfl⟩
        go_wp2_with fail
        refine (HG2.out _ HBB.out).mono ?_
        rintro e U2 ⟨rfl, hb2⟩
        go_wp2_with fail
        go_ret3
        exact ⟨rfl, below_next HBU.out (Nat.le_refl _) (below_next HBB.out (Nat.le_refl _) hb2)⟩
  · obtain ⟨e1, e2, e3⟩ := shp_step (s := K) h0
    rw [e1, e2, e3]
    obtain ⟨y, hy⟩ : ∃ y, y = stpE K nw wd n F a 0 := ⟨_, rfl⟩
    obtain ⟨v, hv⟩ : ∃ v, v = stpV K nw wd n F a 0 := ⟨_, rfl⟩
    rw [← hy] at h0 g1 ⊢
    rw [← hv] at g1
    have hne : (y != 0) = true := by simpa using h0
    clear e1 e2 e3 hy hv h0
    go_enter Try.func32, Try.ntmps32
    go_wp2_with fail
    rw [← HU.out]
    refine g1.mono ?_
    rintro e U1 ⟨rfl, hb1⟩
    go_wp2_with fail
    go_ret3
    exact ⟨rfl, below_next HBU.out (Nat.le_refl _) hb1⟩
end Go.Proofs.Ythcfcciemjkilaa
