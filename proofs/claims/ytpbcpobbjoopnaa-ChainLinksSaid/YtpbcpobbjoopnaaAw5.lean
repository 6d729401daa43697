/-
  The laws' example of layer 5.
-/
import Derived.Test.YtpbcpobbjoopnaaIdx
import Derived.Test.YtpbcpobbjoopnaaNewR
import Derived.Test.YtpbcpobbjoopnaaAwake
namespace Go.Proofs.Ytpbcpobbjoopnaa
open Go.RowKit
set_option maxRecDepth 100000
set_option linter.unusedVariables false

def P0 : Nat → Fr := fun _ => frFree
def P1 : Nat → Fr := fun j => if j = 0 then ⟨1, 1, -1⟩ else P0 j
/-- The example's table: frame 2 is followed by frame 0. -/
def Pf : Nat → Fr := fun j => if j = 2 then ⟨1, 1, 0⟩ else P1 j
theorem pf_eq : ∀ j, Pf j = link (lift (lift P0 0 1 1) 2 1 1) 2 0 j := by
  intro j
  unfold Pf P1 link lift
  by_cases h2 : j = 2
  · subst h2; rfl
  · rw [if_neg h2, if_neg h2, if_neg h2]
theorem pf_fv : FV Pf 4 := by
  have h0 : FV P0 4 := (valid_fresh (k := 3) (n := 4) (by decide) (by decide) (by decide) (by decide)).fv
  have h1 : FV (lift P0 0 1 1) 4 := lift_fv h0 (f := 0) rfl (by decide)
  have h2 : FV (lift (lift P0 0 1 1) 2 1 1) 4 := lift_fv h1 (f := 2) rfl (by decide)
  have h3 : FV (link (lift (lift P0 0 1 1) 2 1 1) 2 (0 : Nat)) 4 := link_fv h2 (l := 2) (f := 0) (by decide) (by decide) (by decide) rfl rfl (by decide) rfl rfl (fun j hj => by
    rcases (show j = 0 ∨ j = 1 ∨ j = 2 ∨ j = 3 by omega) with rfl | rfl | rfl | rfl <;> decide)
  have e : Pf = link (lift (lift P0 0 1 1) 2 1 1) 2 (0 : Nat) := funext pf_eq
  rw [e]
  exact h3
theorem pf_valid : ValidP (3 : Nat) 32 (fun _ => 0) 4 Pf := by
  refine ValidP.mk_ (by decide) (by decide) (by decide) pf_fv (fun f _ _ => ?_)
  simp [zeroB]
theorem pf_len : LenP Pf (2 : Nat) 2 := ⟨by decide, fun i hi => by
  rcases (show i = 0 ∨ i = 1 by omega) with rfl | rfl <;> decide⟩
theorem pf_step : stpE (3 : Nat) 32 (fun _ => 0) 4 Pf 23 1 = 0 ∧ stpV (3 : Nat) 32 (fun _ => 0) 4 Pf 23 1 = 0 := by
  have hp : PartsA 3 23 2 7 := ⟨by decide, by decide, by decide, by decide⟩
  obtain ⟨h1, h2⟩ := stp_ok (K := 3) (x := 1) (m := 2) (validB_yes pf_valid) (by decide) hp (by decide) (chL_length pf_len (by decide)) (by decide)
  exact ⟨h1, h2.trans (by decide)⟩
theorem pf_index : idxE (3 : Nat) 32 (fun _ => 0) 4 Pf 2 3 = 0 ∧ idxV (3 : Nat) 32 (fun _ => 0) 4 Pf 2 3 = 11 := by
  have hp : PartsA 3 3 0 3 := ⟨by decide, by decide, by decide, by decide⟩
  obtain ⟨h1, h2⟩ := idx_ok (K := 3) (f := 2) (q := 1) (validB_yes pf_valid) pf_fv (by decide) (by decide) hp (by decide) pf_len (by decide) (by decide) (fun i hi => by
    obtain rfl : i = 0 := by omega
    decide)
  exact ⟨h1, h2.trans (by decide)⟩

/-- The example's space, new. -/
def PairOut (w : World) (e : Ending) (w' : World) : Prop :=
  ∃ (A : Option Addr) (c g c' : Nat), e = .returned (.agg #[.int .i64 3, .slice A 32 c, .slice (some ⟨g, 0, none⟩) 4 c']) ∧ Own w' w.heap.size A 32 c (fun _ => 0) ∧ OwnT w' w.heap.size (some ⟨g, 0, none⟩) 4 c' Pf ∧ Below w.heap.size w w'

set_option maxHeartbeats 2000000 in
theorem pair5_any (w : World) : Calls Try.prog 13 #[] w (PairOut w) := by
  obtain ⟨U, hU⟩ : ∃ U, U = w.alloc (.cells #[.int .i64 0, .slice none 0 0, .slice none 0 0] 25) := ⟨_, rfl⟩
  have BR := Lib.hid (show Blk U w.heap.size 25 #[.int .i64 0, .slice none 0 0, .slice none 0 0] by rw [hU]; exact Blk.new _ _ _)
  have HBU := Lib.hid (show Below w.heap.size w U by rw [hU]; exact (Below.refl _ _).alloc (Nat.le_refl _) _)
  have HU := Lib.hid hU
  clear hU
  go_enter Try.func13, Try.ntmps13
  go_upto_region 2 with (go_at_call 25; rw [← HU.out]; refine (refNew_yes 3 4 U (by decide) (by decide) (by decide) (by decide)).mono ?_; rintro e w1 ⟨A, A', rfl, ha, ht, hb1⟩)
  obtain ⟨g, rfl, g1, g2, _⟩ := ht.spot 0 (by decide) frFree
  obtain ⟨V, hV⟩ : ∃ V, V = w1.alloc (.cells #[.int .i64 3, .slice A 32 32, .slice (some ⟨g, 0, none⟩) 4 4] 25) := ⟨_, rfl⟩
  have hbv : Below w1.heap.size w1 V := by rw [hV]; exact (Below.refl _ _).alloc (Nat.le_refl _) _
  have BX := Lib.hid (show Blk V w1.heap.size 25 #[.int .i64 3, .slice A 32 32, .slice (some ⟨g, 0, none⟩) 4 4] by rw [hV]; exact Blk.new _ _ _)
  have hbU1 := below_next hb1 (Nat.le_refl _) hbv
  have BR1 := Lib.hid (BR.out.next hbU1)
  have HA1 := Lib.hid (ha.below hbv)
  have HT1 := Lib.hid (ht.below hbv)
  have HB1 := Lib.hid (below_next HBU.out (Nat.le_refl _) hbU1)
  have zu : w.heap.size < U.heap.size := BR.out.lt
  have z1 : U.heap.size ≤ w1.heap.size := hb1.size
  have p2 := BX.out.cell 2
  have pz := BX.out.lt
  simp at p2
  obtain ⟨_, g3, c0, c1, c2, f0, f1, f2, hn1, _⟩ := HT1.out.spotAt 0 (by decide) ⟨1, 1, -1⟩
  simp only [Nat.zero_mul, Nat.zero_add] at c0 c1 c2 f0 f1 f2 hn1
  have HV := Lib.hid hV
  clear hV hbv ha ht hb1 hbU1
  rw [← HV.out]
  go_upto_region 3 with fail
  obtain ⟨W, hW⟩ : ∃ W, W = ((V.setCell ⟨g, 0, none⟩ (.int .i64 1)).setCell ⟨g, 1, none⟩ (.int .i64 1)).setCell ⟨g, 2, none⟩ (.int .i64 (-1)) := ⟨_, rfl⟩
  have hgx : w1.heap.size ≠ g := by omega
  have BX2 := Lib.hid (show Blk W w1.heap.size 25 #[.int .i64 3, .slice A 32 32, .slice (some ⟨g, 0, none⟩) 4 4] by rw [hW]; exact BX.out.far3 hgx _ _ _)
  have BR2 := Lib.hid (show Blk W w.heap.size 25 #[.int .i64 0, .slice none 0 0, .slice none 0 0] by rw [hW]; exact BR1.out.far3 (by omega) _ _ _)
  have HA2 := Lib.hid (show Own W U.heap.size A 32 32 (fun _ => 0) by rw [hW]; exact own_setT HA1.out HT1.out _ _ _)
  have HT2 := Lib.hid (show OwnT W U.heap.size (some ⟨g, 0, none⟩) 4 4 P1 by rw [hW]; exact hn1)
  have HB2 := Lib.hid (show Below w.heap.size w W by rw [hW]; exact below_set3 HB1.out (by omega) _ _ _)
  have HW := Lib.hid hW
  clear hW hn1 c0 c1 c2 f0 f1 f2 p2 pz
  have p2 := BX2.out.cell 2
  have pz := BX2.out.lt
  simp at p2
  obtain ⟨_, g4, c0, c1, c2, f0, f1, f2, hn2, _⟩ := HT2.out.spotAt 2 (by decide) ⟨1, 1, 0⟩
  simp only [Nat.reduceMul, Nat.reduceAdd] at c0 c1 c2 f0 f1 f2 hn2
  rw [← HW.out]
  go_upto_region 4 with fail
  obtain ⟨Z, hZ⟩ : ∃ Z, Z = ((W.setCell ⟨g, 6, none⟩ (.int .i64 1)).setCell ⟨g, 7, none⟩ (.int .i64 1)).setCell ⟨g, 8, none⟩ (.int .i64 0) := ⟨_, rfl⟩
  have BX3 := Lib.hid (show Blk Z w1.heap.size 25 #[.int .i64 3, .slice A 32 32, .slice (some ⟨g, 0, none⟩) 4 4] by rw [hZ]; exact BX2.out.far3 hgx _ _ _)
  have BR3 := Lib.hid (show Blk Z w.heap.size 25 #[.int .i64 0, .slice none 0 0, .slice none 0 0] by rw [hZ]; exact BR2.out.far3 (by omega) _ _ _)
  have HA3 := Lib.hid (show Own Z U.heap.size A 32 32 (fun _ => 0) by rw [hZ]; exact own_setT HA2.out HT2.out _ _ _)
  have HT3 := Lib.hid (show OwnT Z U.heap.size (some ⟨g, 0, none⟩) 4 4 Pf by rw [hZ]; exact hn2)
  have HB3 := Lib.hid (show Below w.heap.size w Z by rw [hZ]; exact below_set3 HB2.out (by omega) _ _ _)
  have HZ := Lib.hid hZ
  clear hZ hn2 c0 c1 c2 f0 f1 f2 p2 pz
  have p0 := BX3.out.cell 0
  have p1 := BX3.out.cell 1
  have p2 := BX3.out.cell 2
  have pz := BX3.out.lt
  have r0 := BR3.out.cell 0
  have r1 := BR3.out.cell 1
  have r2 := BR3.out.cell 2
  have q0 := BR3.out.frozen 0
  have q1 := BR3.out.frozen 1
  have q2 := BR3.out.frozen 2
  have rz := BR3.out.lt
  simp at p0 p1 p2 r0 r1 r2
  rw [← HZ.out]
  go_wp2
  refine bodyPost_ret (v := .agg #[.int .i64 3, .slice A 32 32, .slice (some ⟨g, 0, none⟩) 4 4]) (by simp [results, Try.results13, go_sem, r0, r1, r2]) rfl ⟨A, 32, g, 4, rfl, ?_, ?_, ?_⟩
  · exact (HA3.out.put3 zu _ _ _).lower (Nat.le_of_lt zu)
  · exact (HT3.out.put3 zu _ _ _).lower (Nat.le_of_lt zu)
  · exact below_put3 HB3.out (Nat.le_refl _) _ _ _

set_option maxHeartbeats 1000000 in
theorem awake5_any (w : World) : Calls Try.prog 8 #[] w fun e w' => e = .returned (.bool true) ∧ Below w.heap.size w w' := by
  obtain ⟨e1, e2⟩ := pf_step
  obtain ⟨e3, e4⟩ := pf_index
  have H1 := Lib.hid e1
  have H2 := Lib.hid e2
  have H3 := Lib.hid e3
  have H4 := Lib.hid e4
  clear e1 e2 e3 e4
  go_enter Try.func8, Try.ntmps8
  go_upto_region 2 with (first
    | (go_at_call 13; refine (pair5_any w).mono ?_; rintro e w1 ⟨A, c, g, c', rfl, ha, ht, hb1⟩)
    | (go_at_call 21; refine (step5_any (3 : Nat) A (some ⟨g, 0, none⟩) 32 c 4 c' (fun _ => 0) Pf 23 1 w1 ha.arr ht.tab (by decide) (by decide) (by decide) (by decide)).mono ?_; rintro e w2 ⟨rfl, hb2⟩; rw [H1.out, H2.out]; have HB := Lib.hid (below_next hb1 (Nat.le_refl _) hb2); clear ha ht hb1 hb2))
  go_wp2_with (first
    | (go_at_call 13; refine (pair5_any _).mono ?_; rintro e w3 ⟨A', c2, g', c3, rfl, ha, ht, hb1⟩)
    | (go_at_call 23; refine (index5_any (3 : Nat) A' (some ⟨g', 0, none⟩) 32 c2 4 c3 (fun _ => 0) Pf 2 3 w3 ha.arr ht.tab (by decide) (by decide)).mono ?_; rintro e w4 ⟨rfl, hb2⟩; rw [H3.out, H4.out]; have HB2 := Lib.hid (below_next HB.out (Nat.le_refl _) (below_next hb1 (Nat.le_refl _) hb2)); clear ha ht hb1 hb2))
  go_ret
  exact ⟨rfl, HB2.out⟩
end Go.Proofs.Ytpbcpobbjoopnaa
