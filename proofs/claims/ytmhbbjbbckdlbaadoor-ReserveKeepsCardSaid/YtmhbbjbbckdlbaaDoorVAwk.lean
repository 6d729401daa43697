/-
  The example of chapter 16.
-/
import Derived.Test.YtmhbbjbbckdlbaaDoorVKpm
import Derived.Deep.RegionHeld3
namespace Go.Proofs.YtmhbbjbbckdlbaaDoor
open Go.RowKit
set_option maxRecDepth 100000
set_option linter.unusedVariables false

def sN : ByteArray := { data := #[115] }
def sR : List Rl := [⟨0, 0, 0, 0⟩]
theorem s_cpl : cplB sN sR 1 = true := by decide +kernel
theorem s_wf : WfR sR := fun j r h => by
  have := get_lt h
  obtain rfl : j = 0 := by simp [sR] at this; omega
  simp [sR] at h
  subst h
  decide
/-- A complete configuration. -/
def SemiOf (w : World) (e : Ending) (w' : World) : Prop := ∃ A c, e = .returned (.agg #[.string sN, .slice A 1 c, .int .i64 1]) ∧ RArr w' (Lt w'.heap.size) A c sR ∧ Below w.heap.size w w'

set_option maxHeartbeats 4000000 in
theorem semi_any (w : World) : Calls Tryd.prog 38 #[] w (SemiOf w) := by
  obtain ⟨U, hU⟩ : ∃ U, U = (w.alloc (.cells #[.string sN, .slice (some ⟨w.heap.size + 1, 0, none⟩) 1 1, .int .i64 1] 27)).alloc (.cells #[.float .f64 0, .int .i64 0, .int .i64 0, .int .i64 0] 63) := ⟨_, rfl⟩
  have B1 : Blk U w.heap.size 27 #[.string sN, .slice (some ⟨w.heap.size + 1, 0, none⟩) 1 1, .int .i64 1] := by rw [hU]; exact (Blk.new _ _ _).alloc _
  have B2 : Blk U (w.heap.size + 1) 63 #[.float .f64 0, .int .i64 0, .int .i64 0, .int .i64 0] := by rw [hU]; exact Blk.newAt _ _ _ _ (by simp)
  have hbu : Below w.heap.size w U := by rw [hU]; exact ((Below.refl _ _).alloc (Nat.le_refl _) _).alloc (by simp) _
  have hro : ROwn U (w.heap.size + 1) (.slice (some ⟨w.heap.size + 1, 0, none⟩) sR.length sR.length) sR := ROwn.of_block B2 (Nat.le_refl _) (by decide)
  obtain ⟨A, c, e, hr⟩ := hro.slice
  injection e with e1 _ e2
  subst e1
  subst e2
  have p0 := B1.cell 0
  have p1 := B1.cell 1
  have p2 := B1.cell 2
  simp at p0 p1 p2
  have HR := Lib.hid (RArr.mono (P' := Lt U.heap.size) hr fun b hb => hb.2)
  have HBU := Lib.hid hbu
  have HU := Lib.hid hU
  clear hU B1 B2 hbu hro hr
  go_enter Tryd.func38, Tryd.ntmps38
  go_wp2
  rw [show ({ data := #[115] } : ByteArray) = sN from rfl, ← HU.out]
  refine bodyPost_ret (v := .agg #[.string sN, .slice (some ⟨w.heap.size + 1, 0, none⟩) 1 1, .int .i64 1]) (by simp [results, Tryd.results38, go_sem, p0, p1, p2]) rfl ⟨_, _, rfl, HR.out, HBU.out⟩

theorem fits16 {k n nw : Nat} {F : Nat → Fr} {sq bt : Int} (h0 : 0 ≤ sq) (h1 : sq ≤ 4294967295) (h2 : 0 ≤ bt) (h3 : bt < 4) : FitsQ k n nw F sq bt (-1) (-1) 0 :=
  ⟨⟨h0, h1, h2, h3, 0, rfl, by omega, .inl ⟨ceilV_zero k, rfl⟩, fun _ => ⟨rfl, rfl⟩⟩, fun h => by omega⟩
def Q0 : Nat → Fr := fun _ => frFree
theorem q_v0 : ValidP (3 : Nat) 64 (fun _ => 0) 8 Q0 := valid_fresh (k := 3) (n := 8) (by decide) (by decide) (by decide) (by decide)
theorem q_e0 : allE (3 : Nat) 64 (fun _ => 0) 8 Q0 0 0 (-1) (-1) (0 : Nat) (20 : Nat) = 0 := by
  refine allE_ok (fun h => ?_) (fun h => absurd h.2 (by decide)) (by decide)
  rcases h with h | h | h
  · rw [show ((0 : Nat) : Int) = 0 from rfl, incB_mk q_v0 (fits16 (by decide) (by decide) (by decide) (by decide))] at h; cases h
  · exact absurd h (by decide)
  · exact absurd h (by decide)
theorem q_u : cntP (owB (allG (3 : Nat) 8 Q0 0 0 (-1) (-1) (0 : Nat) (20 : Nat)).F (-1)) 8 = 5 := by
  have h := all_free q_e0
  rw [show moreK 3 0 20 = 3 from by decide, show cntP (owB Q0 (-1)) 8 = 8 from by decide] at h
  omega
set_option maxHeartbeats 8000000 in
theorem awake16_any (w : World) (hD : Db w) : Calls Tryd.prog 15 #[] w fun e w' => e = .returned (.bool true) ∧ Below w.heap.size w w' := by
  have HD := Lib.hid hD
  clear hD
  go_enter Tryd.func15, Tryd.ntmps15
  go_wp2_with fail
  refine (refNew_yes 3 8 _ (by decide) (by decide) (by decide) (by decide)).mono ?_
  rintro e w1 ⟨A, A', rfl, ha, ht, hb1⟩
  obtain ⟨V, hV⟩ : ∃ V, V = w1.alloc (.cells #[.int .i64 3, .slice A 64 64, .slice A' 8 8] 31) := ⟨_, rfl⟩
  have hbv : Below w1.heap.size w1 V := by rw [hV]; exact (Below.refl _ _).alloc (Nat.le_refl _) _
  obtain ⟨X0, hX0⟩ : ∃ b, b = w1.heap.size := ⟨_, rfl⟩
  have BX := Lib.hid (show Blk V X0 31 #[.int .i64 3, .slice A 64 64, .slice A' 8 8] by rw [hV, hX0]; exact Blk.new _ _ _)
  have HA1 := Lib.hid (ha.arr.next hbv)
  have HT1 := Lib.hid (ht.tab.next hbv)
  have HB1 := Lib.hid (below_next hb1 (Nat.le_refl _) hbv)
  have z1 : w.heap.size ≤ X0 := by rw [hX0]; exact hb1.size
  have HZ1 := Lib.hid z1
  have p0 := BX.out.cell 0
  have p1 := BX.out.cell 1
  have p2 := BX.out.cell 2
  have pz := BX.out.lt
  have HV := Lib.hid hV
  have HX0 := Lib.hid hX0
  simp at p0 p1 p2
  clear hV hbv ha ht hb1 hX0 z1
  go_wp2_with fail
  rw [← HV.out, ← HX0.out]
  refine (refAll9_any (3 : Nat) A A' 64 64 8 8 (fun _ => 0) Q0 0 0 (-1) (-1) (0 : Nat) (20 : Nat) V HA1.out HT1.out).mono ?_
  rintro e w2 (⟨x, h1, h2, _⟩ | ⟨_, A2, c2, g2, d2, rfl, ho, ht, hb2⟩)
  · exact absurd (h1.symm.trans q_e0) h2
  have hu := q_u
  rw [show (((0 : Nat) : Int) + ((20 : Nat) : Int)) = 20 from rfl, show ((3 : Nat) : Int) = 3 from rfl, show ((0 : Nat) : Int) = 0 from rfl]
  rw [show ((3 : Nat) : Int) = 3 from rfl, show ((0 : Nat) : Int) = 0 from rfl] at ht
  rw [show ((0 : Nat) : Int) = 0 from rfl] at hu
  generalize allG 3 8 Q0 0 0 (-1) (-1) 0 (20 : Nat) = GG at *
  obtain ⟨F', fi', la'⟩ := GG
  dsimp only at ht hu ⊢
  generalize addrP F' (3 : Int).toNat fi' (0 : Int).toNat = av
  have X := BX.out.next hb2
  have x0 := X.cell 0
  have x1 := X.cell 1
  have x2 := X.cell 2
  have xf0 := X.frozen 0
  have xf1 := X.frozen 1
  have xf2 := X.frozen 2
  have xz := X.lt
  simp at x0 x1 x2
  obtain ⟨V2, hV2⟩ : ∃ V2, V2 = (((w2.setCell ⟨X0, 0, none⟩ (.int .i64 3)).setCell ⟨X0, 1, none⟩ (.slice A2 64 c2)).setCell ⟨X0, 2, none⟩ (.slice (some ⟨g2, 0, none⟩) 8 d2)).alloc (.cells #[.int .i64 0, .int .i64 0, .int .i64 fi', .int .i64 la', .int .i64 20] 38) := ⟨_, rfl⟩
  obtain ⟨X1, hX1⟩ : ∃ b, b = w2.heap.size := ⟨_, rfl⟩
  have BX2 := Lib.hid (show Blk V2 X0 31 #[.int .i64 3, .slice A2 64 c2, .slice (some ⟨g2, 0, none⟩) 8 d2] by rw [hV2]; exact (X.set3 _ _ _).alloc _)
  have BI2 := Lib.hid (show Blk V2 X1 38 #[.int .i64 0, .int .i64 0, .int .i64 fi', .int .i64 la', .int .i64 20] by rw [hV2, hX1]; exact Blk.newAt _ _ _ _ (by simp))
  have HT2 := Lib.hid (show Tab V2 V2.heap.size (some ⟨g2, 0, none⟩) 8 d2 F' by rw [hV2]; exact ((ht.put3 BX.out.lt _ _ _).alloc9 _).tab)
  have HB2 := Lib.hid (show Below w.heap.size w V2 by rw [hV2]; exact below_alloc9 (below_put3 (below_next HB1.out (Nat.le_refl _) hb2) HZ1.out _ _ _) _)
  have HV2 := Lib.hid hV2
  have HX1 := Lib.hid hX1
  have HU := Lib.hid hu
  clear hV2 ho ht hb2 X p0 p1 p2 pz hX1 hu
  go_upto_region 3 with fail
  rw [← HV2.out, ← HX1.out]
  clear x0 x1 x2 xf0 xf1 xf2 xz
  have v0 := BI2.out.cell 0
  have v1 := BI2.out.cell 1
  have v2 := BI2.out.cell 2
  have v3 := BI2.out.cell 3
  have v4 := BI2.out.cell 4
  have vz := BI2.out.lt
  simp at v0 v1 v2 v3 v4
  obtain ⟨V3, hV3⟩ : ∃ V3, V3 = (V2.alloc (.cells #[.int .i64 0, .int .i64 0, .int .i64 fi', .int .i64 la', .int .i64 20] 38)).alloc (.cells #[.slice (some ⟨V2.heap.size, 0, none⟩) 1 1] 39) := ⟨_, rfl⟩
  have hb3 : Below V2.heap.size V2 V3 := by rw [hV3]; exact ((Below.refl _ _).alloc (Nat.le_refl _) _).alloc (by simp) _
  have HR3 := Lib.hid (show Blk V3 V2.heap.size 38 #[.int .i64 0, .int .i64 0, .int .i64 fi', .int .i64 la', .int .i64 20] by rw [hV3]; exact (Blk.new _ _ _).alloc _)
  have HS3 := Lib.hid (show Blk V3 (V2.heap.size + 1) 39 #[.slice (some ⟨V2.heap.size, 0, none⟩) 1 1] by rw [hV3]; exact Blk.newAt _ _ _ _ (by simp))
  have HB3 := Lib.hid (HB2.out.trans (hb3.mono HB2.out.size))
  obtain ⟨QQ, hqq⟩ : ∃ Q : List (List IncR), Q = [[⟨0, 0, fi', la', 20⟩]] := ⟨_, rfl⟩
  have hq3 : QArr V3.drew (Lt V3.drew.heap.size) (some ⟨V2.heap.size + 1, 0, none⟩) 1 QQ := by
    rw [hqq]
    refine ⟨Nat.le_refl _, by decide, fun h => (by cases h), fun _ => ⟨V2.heap.size + 1, 0, rfl, HS3.out.lt, fun j q hj => ?_⟩⟩
    have hjl := get_lt hj
    obtain rfl : j = 0 := by simp at hjl; omega
    simp at hj
    subst hj
    refine ⟨some ⟨V2.heap.size, 0, none⟩, 1, HS3.out.cell 0, Nat.le_refl _, by decide, fun h => (by cases h), fun _ => ⟨V2.heap.size, 0, rfl, HR3.out.lt, fun j i hj => ?_⟩⟩
    have hjl := get_lt hj
    obtain rfl : j = 0 := by simp at hjl; omega
    simp at hj
    subst hj
    exact ⟨HR3.out.cell 0, HR3.out.cell 1, HR3.out.cell 2, HR3.out.cell 3, HR3.out.cell 4⟩
  have HQ3 := Lib.hid hq3
  have HT3 := Lib.hid (show Tab V3.drew V3.drew.heap.size (some ⟨g2, 0, none⟩) 8 d2 F' from HT2.out.next hb3.drew)
  have HD3 := Lib.hid (show Db V3.drew from HD.out.next HB3.out.drew)
  have HFR := Lib.hid (show cntP (owB F' (-1)) 8 = 5 from HU.out)
  have HUS := Lib.hid (show usN F' 8 = 3 by unfold usN; rw [HU.out])
  have HQQ := Lib.hid hqq
  have hql : QQ.length = 1 := by rw [hqq]; rfl
  have BX3 := BX2.out.next hb3
  have BI3 := BI2.out.next hb3
  have y0 : V3.drew.cell? ⟨X0, 0, none⟩ = some (.int .i64 3) := BX3.cell 0
  have y1 : V3.drew.cell? ⟨X0, 1, none⟩ = some (.slice A2 64 c2) := BX3.cell 1
  have y2 : V3.drew.cell? ⟨X0, 2, none⟩ = some (.slice (some ⟨g2, 0, none⟩) 8 d2) := BX3.cell 2
  have yz : X0 < V3.drew.heap.size := BX3.lt
  have i0 : V3.drew.cell? ⟨X1, 0, none⟩ = some (.int .i64 0) := BI3.cell 0
  have i1 : V3.drew.cell? ⟨X1, 1, none⟩ = some (.int .i64 0) := BI3.cell 1
  have i2 : V3.drew.cell? ⟨X1, 2, none⟩ = some (.int .i64 fi') := BI3.cell 2
  have i3 : V3.drew.cell? ⟨X1, 3, none⟩ = some (.int .i64 la') := BI3.cell 3
  have i4 : V3.drew.cell? ⟨X1, 4, none⟩ = some (.int .i64 20) := BI3.cell 4
  have iz : X1 < V3.drew.heap.size := BI3.lt
  have hc : Below V3.drew.heap.size V3.drew V3.drew := Below.refl _ _
  have HV3 := Lib.hid hV3
  have N1 := Lib.hid (show ∀ W (A9 : Option Addr) (c9 : Nat), Below V3.drew.heap.size V3.drew W → RArr W (Lt W.heap.size) A9 c9 sR → Calls Tryd.prog 8 #[.agg #[.string sN, .slice A9 1 c9, .int .i64 1], .agg #[.int .i64 3, .slice A2 64 c2, .slice (some ⟨g2, 0, none⟩) 8 d2], .slice (some ⟨V2.heap.size + 1, 0, none⟩) 1 1] W fun e w' => e = .returned (.int .i64 3) ∧ Below W.heap.size W w' from fun W A9 c9 hW hr => by
    have h := devNeeded_any sN A9 c9 sR 1 3 A2 64 c2 (some ⟨g2, 0, none⟩) 8 d2 F' (some ⟨V2.heap.size + 1, 0, none⟩) 1 QQ W hr s_wf (by decide) (HT3.out.next hW) (by decide) (HQ3.out.next hW)
    rw [hql, s_cpl, HUS.out] at h
    exact h)
  have G8 := Lib.hid (show ∀ W (A9 : Option Addr) (c9 : Nat), Below V3.drew.heap.size V3.drew W → RArr W (Lt W.heap.size) A9 c9 sR → Calls Tryd.prog 13 #[.agg #[.string sN, .slice A9 1 c9, .int .i64 1], .agg #[.int .i64 3, .slice A2 64 c2, .slice (some ⟨g2, 0, none⟩) 8 d2], .slice (some ⟨V2.heap.size + 1, 0, none⟩) 1 1, .agg #[.int .i64 0, .int .i64 0, .int .i64 fi', .int .i64 la', .int .i64 20], .int .i64 8] W fun e w' => e = .returned (.bool true) ∧ Below W.heap.size W w' from fun W A9 c9 hW hr => by
    have h := devGrants_at sN A9 c9 sR 1 3 A2 64 c2 (some ⟨g2, 0, none⟩) 8 d2 F' (some ⟨V2.heap.size + 1, 0, none⟩) 1 QQ W 0 0 fi' la' 20 8 (by decide) (by decide) (by decide) hr s_wf (by decide) (HT3.out.next hW) (by decide) (HQ3.out.next hW) (HD3.out.next hW)
    rw [hql, s_cpl, HUS.out] at h
    rw [show ∀ z : Int, grB true 8 3 z ((ceilV 20 3 : Nat) : Int) (moreK 3 20 8) = true from fun z => rfl] at h
    exact h)
  have G16 := Lib.hid (show ∀ W (A9 : Option Addr) (c9 : Nat), Below V3.drew.heap.size V3.drew W → RArr W (Lt W.heap.size) A9 c9 sR → Calls Tryd.prog 13 #[.agg #[.string sN, .slice A9 1 c9, .int .i64 1], .agg #[.int .i64 3, .slice A2 64 c2, .slice (some ⟨g2, 0, none⟩) 8 d2], .slice (some ⟨V2.heap.size + 1, 0, none⟩) 1 1, .agg #[.int .i64 0, .int .i64 0, .int .i64 fi', .int .i64 la', .int .i64 20], .int .i64 16] W fun e w' => e = .returned (.bool false) ∧ Below W.heap.size W w' from fun W A9 c9 hW hr => by
    have h := devGrants_at sN A9 c9 sR 1 3 A2 64 c2 (some ⟨g2, 0, none⟩) 8 d2 F' (some ⟨V2.heap.size + 1, 0, none⟩) 1 QQ W 0 0 fi' la' 20 16 (by decide) (by decide) (by decide) hr s_wf (by decide) (HT3.out.next hW) (by decide) (HQ3.out.next hW) (HD3.out.next hW)
    rw [hql, s_cpl, HUS.out] at h
    rw [show ∀ z : Int, grB true 8 3 z ((ceilV 20 3 : Nat) : Int) (moreK 3 20 16) = false from fun z => rfl] at h
    exact h)
  have H1 := Lib.hid (show ∀ W (A9 : Option Addr) (c9 : Nat), Below V3.drew.heap.size V3.drew W → RArr W (Lt W.heap.size) A9 c9 sR → Calls Tryd.prog 10 #[.agg #[.string sN, .slice A9 1 c9, .int .i64 1], .agg #[.int .i64 3, .slice A2 64 c2, .slice (some ⟨g2, 0, none⟩) 8 d2], .slice (some ⟨V2.heap.size + 1, 0, none⟩) 1 1] W fun e w' => e = .returned (.bool true) ∧ Below W.heap.size W w' from fun W A9 c9 hW hr => by
    have h := devHolds_any sN A9 c9 sR 1 3 A2 64 c2 (some ⟨g2, 0, none⟩) 8 d2 F' (some ⟨V2.heap.size + 1, 0, none⟩) 1 QQ W hr s_wf (by decide) (HT3.out.next hW) (by decide) (HQ3.out.next hW) (HD3.out.next hW)
    rw [hql, s_cpl, HUS.out, HFR.out] at h
    exact h)
  clear hV3 hb3 hqq hq3 hql BX3 BI3
  go_upto_region 4 with fail
  clear v0 v1 v2 v3 v4 vz
  rw [← HV3.out]
  refine wp_region_held_drew (S := (fun w' => w'.cell? ⟨X0, 0, none⟩ = some (.int .i64 3) ∧ w'.cell? ⟨X0, 1, none⟩ = some (.slice A2 64 c2) ∧ w'.cell? ⟨X0, 2, none⟩ = some (.slice (some ⟨g2, 0, none⟩) 8 d2) ∧ w'.cell? ⟨X1, 0, none⟩ = some (.int .i64 0) ∧ w'.cell? ⟨X1, 1, none⟩ = some (.int .i64 0) ∧ w'.cell? ⟨X1, 2, none⟩ = some (.int .i64 fi') ∧ w'.cell? ⟨X1, 3, none⟩ = some (.int .i64 la') ∧ w'.cell? ⟨X1, 4, none⟩ = some (.int .i64 20))) (by kernel_rfl) ?_ (fun hHeld => ?_)
  · exact ⟨y0, y1, y2, i0, i1, i2, i3, i4⟩
  (refine wpAnyH_take (i := 1) (v := ?_) rfl (by kernel_rfl) (by kernel_rfl) (by kernel_rfl) (fun _ _ _ h => h) (Or.inl ⟨by rfl, ?_⟩) (by assumption) ?_; rotate_left 1; (focus (intro w' hSw; (try dsimp only at hSw); go_simp; (try with_reducible rfl); done)); try simp only [Act.put, List.setIfInBounds_toArray, List.set_cons_zero, List.set_cons_succ, List.getElem_toArray, List.getElem_cons_zero, List.getElem_cons_succ])
  (refine wpAnyH_take (i := 2) (v := ?_) rfl (by kernel_rfl) (by kernel_rfl) (by kernel_rfl) (fun _ _ _ h => h) (Or.inl ⟨by rfl, ?_⟩) (by assumption) ?_; rotate_left 1; (focus (intro w' hSw; (try dsimp only at hSw); go_simp; (try with_reducible rfl); done)); try simp only [Act.put, List.setIfInBounds_toArray, List.set_cons_zero, List.set_cons_succ, List.getElem_toArray, List.getElem_cons_zero, List.getElem_cons_succ])
  refine wpAnyH_ready (rs := [0]) (by kernel_rfl) (by simp) ?_
  refine AllReadyH.cons rfl (fun K hK => ?_) AllReadyH.nil
  go_simp
  go_at_call 38
  refine (semi_any _).mono ?_
  rintro e wn ⟨A11, c11, rfl, hr, hb⟩
  replace hc := hc.trans (Below.mono hb hc.size)
  clear hb
  go_wp2_with fail
  refine hK.out _ _ ⟨(hc.cell (p := ⟨X0, 0, none⟩) yz).trans y0, (hc.cell (p := ⟨X0, 1, none⟩) yz).trans y1, (hc.cell (p := ⟨X0, 2, none⟩) yz).trans y2, (hc.cell (p := ⟨X1, 0, none⟩) iz).trans i0, (hc.cell (p := ⟨X1, 1, none⟩) iz).trans i1, (hc.cell (p := ⟨X1, 2, none⟩) iz).trans i2, (hc.cell (p := ⟨X1, 3, none⟩) iz).trans i3, (hc.cell (p := ⟨X1, 4, none⟩) iz).trans i4⟩ (fun hHeld2 => ?_)
  clear hK K hHeld
  have hHeld := hHeld2
  clear hHeld2
  try simp only [Act.put, List.setIfInBounds_toArray, List.set_cons_zero, List.set_cons_succ, List.getElem_toArray, List.getElem_cons_zero, List.getElem_cons_succ]
  refine wpAnyH_ready (rs := [3]) (by kernel_rfl) (by simp) ?_
  refine AllReadyH.cons rfl (fun K hK => ?_) AllReadyH.nil
  go_simp
  go_at_call 8
  refine (N1.out _ _ _ hc hr).mono ?_
  rintro e wn ⟨rfl, hb⟩
  replace hc := hc.trans (Below.mono hb hc.size)
  clear hb
  clear hr
  go_wp2_with fail
  refine hK.out _ _ ⟨(hc.cell (p := ⟨X0, 0, none⟩) yz).trans y0, (hc.cell (p := ⟨X0, 1, none⟩) yz).trans y1, (hc.cell (p := ⟨X0, 2, none⟩) yz).trans y2, (hc.cell (p := ⟨X1, 0, none⟩) iz).trans i0, (hc.cell (p := ⟨X1, 1, none⟩) iz).trans i1, (hc.cell (p := ⟨X1, 2, none⟩) iz).trans i2, (hc.cell (p := ⟨X1, 3, none⟩) iz).trans i3, (hc.cell (p := ⟨X1, 4, none⟩) iz).trans i4⟩ (fun hHeld2 => ?_)
  clear hK K hHeld
  have hHeld := hHeld2
  clear hHeld2
  try simp only [Act.put, List.setIfInBounds_toArray, List.set_cons_zero, List.set_cons_succ, List.getElem_toArray, List.getElem_cons_zero, List.getElem_cons_succ]
  (refine wpAnyH_take (i := 4) (v := ?_) rfl (by kernel_rfl) (by kernel_rfl) (by kernel_rfl) (fun _ _ _ h => h) (Or.inl ⟨by rfl, ?_⟩) (by assumption) ?_; rotate_left 1; (focus (intro w' hSw; (try dsimp only at hSw); go_simp; (try with_reducible rfl); done)); try simp only [Act.put, List.setIfInBounds_toArray, List.set_cons_zero, List.set_cons_succ, List.getElem_toArray, List.getElem_cons_zero, List.getElem_cons_succ])
  (refine wpAnyH_take (i := 5) (v := ?_) rfl (by kernel_rfl) (by kernel_rfl) (by kernel_rfl) (fun _ _ _ h => h) (Or.inl ⟨by rfl, ?_⟩) (by assumption) ?_; rotate_left 1; (focus (intro w' hSw; (try dsimp only at hSw); go_simp; (try with_reducible rfl); done)); try simp only [Act.put, List.setIfInBounds_toArray, List.set_cons_zero, List.set_cons_succ, List.getElem_toArray, List.getElem_cons_zero, List.getElem_cons_succ])
  (refine wpAnyH_take (i := 7) (v := ?_) rfl (by kernel_rfl) (by kernel_rfl) (by kernel_rfl) (fun _ _ _ h => h) (Or.inl ⟨by rfl, ?_⟩) (by assumption) ?_; rotate_left 1; (focus (intro w' hSw; (try dsimp only at hSw); go_simp; (try with_reducible rfl); done)); try simp only [Act.put, List.setIfInBounds_toArray, List.set_cons_zero, List.set_cons_succ, List.getElem_toArray, List.getElem_cons_zero, List.getElem_cons_succ])
  (refine wpAnyH_take (i := 8) (v := ?_) rfl (by kernel_rfl) (by kernel_rfl) (by kernel_rfl) (fun _ _ _ h => h) (Or.inl ⟨by rfl, ?_⟩) (by assumption) ?_; rotate_left 1; (focus (intro w' hSw; (try dsimp only at hSw); go_simp; (try with_reducible rfl); done)); try simp only [Act.put, List.setIfInBounds_toArray, List.set_cons_zero, List.set_cons_succ, List.getElem_toArray, List.getElem_cons_zero, List.getElem_cons_succ])
  (refine wpAnyH_take (i := 9) (v := ?_) rfl (by kernel_rfl) (by kernel_rfl) (by kernel_rfl) (fun _ _ _ h => h) (Or.inl ⟨by rfl, ?_⟩) (by assumption) ?_; rotate_left 1; (focus (intro w' hSw; (try dsimp only at hSw); go_simp; (try with_reducible rfl); done)); try simp only [Act.put, List.setIfInBounds_toArray, List.set_cons_zero, List.set_cons_succ, List.getElem_toArray, List.getElem_cons_zero, List.getElem_cons_succ])
  refine wpAnyH_ready (rs := [6]) (by kernel_rfl) (by simp) ?_
  refine AllReadyH.cons rfl (fun K hK => ?_) AllReadyH.nil
  go_simp
  go_at_call 38
  refine (semi_any _).mono ?_
  rintro e wn ⟨A12, c12, rfl, hr, hb⟩
  replace hc := hc.trans (Below.mono hb hc.size)
  clear hb
  go_wp2_with fail
  refine hK.out _ _ ⟨(hc.cell (p := ⟨X0, 0, none⟩) yz).trans y0, (hc.cell (p := ⟨X0, 1, none⟩) yz).trans y1, (hc.cell (p := ⟨X0, 2, none⟩) yz).trans y2, (hc.cell (p := ⟨X1, 0, none⟩) iz).trans i0, (hc.cell (p := ⟨X1, 1, none⟩) iz).trans i1, (hc.cell (p := ⟨X1, 2, none⟩) iz).trans i2, (hc.cell (p := ⟨X1, 3, none⟩) iz).trans i3, (hc.cell (p := ⟨X1, 4, none⟩) iz).trans i4⟩ (fun hHeld2 => ?_)
  clear hK K hHeld
  have hHeld := hHeld2
  clear hHeld2
  try simp only [Act.put, List.setIfInBounds_toArray, List.set_cons_zero, List.set_cons_succ, List.getElem_toArray, List.getElem_cons_zero, List.getElem_cons_succ]
  refine wpAnyH_ready (rs := [10]) (by kernel_rfl) (by simp) ?_
  refine AllReadyH.cons rfl (fun K hK => ?_) AllReadyH.nil
  go_simp
  go_at_call 13
  refine (G8.out _ _ _ hc hr).mono ?_
  rintro e wn ⟨rfl, hb⟩
  replace hc := hc.trans (Below.mono hb hc.size)
  clear hb
  clear hr
  go_wp2_with fail
  refine hK.out _ _ ⟨(hc.cell (p := ⟨X0, 0, none⟩) yz).trans y0, (hc.cell (p := ⟨X0, 1, none⟩) yz).trans y1, (hc.cell (p := ⟨X0, 2, none⟩) yz).trans y2, (hc.cell (p := ⟨X1, 0, none⟩) iz).trans i0, (hc.cell (p := ⟨X1, 1, none⟩) iz).trans i1, (hc.cell (p := ⟨X1, 2, none⟩) iz).trans i2, (hc.cell (p := ⟨X1, 3, none⟩) iz).trans i3, (hc.cell (p := ⟨X1, 4, none⟩) iz).trans i4⟩ (fun hHeld2 => ?_)
  clear hK K hHeld
  have hHeld := hHeld2
  clear hHeld2
  try simp only [Act.put, List.setIfInBounds_toArray, List.set_cons_zero, List.set_cons_succ, List.getElem_toArray, List.getElem_cons_zero, List.getElem_cons_succ]
  (refine wpAnyH_take (i := 11) (v := ?_) rfl (by kernel_rfl) (by kernel_rfl) (by kernel_rfl) (fun _ _ _ h => h) (Or.inl ⟨by rfl, ?_⟩) (by assumption) ?_; rotate_left 1; (focus (intro w' hSw; (try dsimp only at hSw); go_simp; (try with_reducible rfl); done)); try simp only [Act.put, List.setIfInBounds_toArray, List.set_cons_zero, List.set_cons_succ, List.getElem_toArray, List.getElem_cons_zero, List.getElem_cons_succ])
  (refine wpAnyH_take (i := 12) (v := ?_) rfl (by kernel_rfl) (by kernel_rfl) (by kernel_rfl) (fun _ _ _ h => h) (Or.inl ⟨by rfl, ?_⟩) (by assumption) ?_; rotate_left 1; (focus (intro w' hSw; (try dsimp only at hSw); go_simp; (try with_reducible rfl); done)); try simp only [Act.put, List.setIfInBounds_toArray, List.set_cons_zero, List.set_cons_succ, List.getElem_toArray, List.getElem_cons_zero, List.getElem_cons_succ])
  (refine wpAnyH_take (i := 14) (v := ?_) rfl (by kernel_rfl) (by kernel_rfl) (by kernel_rfl) (fun _ _ _ h => h) (Or.inl ⟨by rfl, ?_⟩) (by assumption) ?_; rotate_left 1; (focus (intro w' hSw; (try dsimp only at hSw); go_simp; (try with_reducible rfl); done)); try simp only [Act.put, List.setIfInBounds_toArray, List.set_cons_zero, List.set_cons_succ, List.getElem_toArray, List.getElem_cons_zero, List.getElem_cons_succ])
  (refine wpAnyH_take (i := 15) (v := ?_) rfl (by kernel_rfl) (by kernel_rfl) (by kernel_rfl) (fun _ _ _ h => h) (Or.inl ⟨by rfl, ?_⟩) (by assumption) ?_; rotate_left 1; (focus (intro w' hSw; (try dsimp only at hSw); go_simp; (try with_reducible rfl); done)); try simp only [Act.put, List.setIfInBounds_toArray, List.set_cons_zero, List.set_cons_succ, List.getElem_toArray, List.getElem_cons_zero, List.getElem_cons_succ])
  (refine wpAnyH_take (i := 16) (v := ?_) rfl (by kernel_rfl) (by kernel_rfl) (by kernel_rfl) (fun _ _ _ h => h) (Or.inl ⟨by rfl, ?_⟩) (by assumption) ?_; rotate_left 1; (focus (intro w' hSw; (try dsimp only at hSw); go_simp; (try with_reducible rfl); done)); try simp only [Act.put, List.setIfInBounds_toArray, List.set_cons_zero, List.set_cons_succ, List.getElem_toArray, List.getElem_cons_zero, List.getElem_cons_succ])
  refine wpAnyH_ready (rs := [13]) (by kernel_rfl) (by simp) ?_
  refine AllReadyH.cons rfl (fun K hK => ?_) AllReadyH.nil
  go_simp
  go_at_call 38
  refine (semi_any _).mono ?_
  rintro e wn ⟨A13, c13, rfl, hr, hb⟩
  replace hc := hc.trans (Below.mono hb hc.size)
  clear hb
  go_wp2_with fail
  refine hK.out _ _ ⟨(hc.cell (p := ⟨X0, 0, none⟩) yz).trans y0, (hc.cell (p := ⟨X0, 1, none⟩) yz).trans y1, (hc.cell (p := ⟨X0, 2, none⟩) yz).trans y2, (hc.cell (p := ⟨X1, 0, none⟩) iz).trans i0, (hc.cell (p := ⟨X1, 1, none⟩) iz).trans i1, (hc.cell (p := ⟨X1, 2, none⟩) iz).trans i2, (hc.cell (p := ⟨X1, 3, none⟩) iz).trans i3, (hc.cell (p := ⟨X1, 4, none⟩) iz).trans i4⟩ (fun hHeld2 => ?_)
  clear hK K hHeld
  have hHeld := hHeld2
  clear hHeld2
  try simp only [Act.put, List.setIfInBounds_toArray, List.set_cons_zero, List.set_cons_succ, List.getElem_toArray, List.getElem_cons_zero, List.getElem_cons_succ]
  refine wpAnyH_ready (rs := [17]) (by kernel_rfl) (by simp) ?_
  refine AllReadyH.cons rfl (fun K hK => ?_) AllReadyH.nil
  go_simp
  go_at_call 13
  refine (G16.out _ _ _ hc hr).mono ?_
  rintro e wn ⟨rfl, hb⟩
  replace hc := hc.trans (Below.mono hb hc.size)
  clear hb
  clear hr
  go_wp2_with fail
  refine hK.out _ _ ⟨(hc.cell (p := ⟨X0, 0, none⟩) yz).trans y0, (hc.cell (p := ⟨X0, 1, none⟩) yz).trans y1, (hc.cell (p := ⟨X0, 2, none⟩) yz).trans y2, (hc.cell (p := ⟨X1, 0, none⟩) iz).trans i0, (hc.cell (p := ⟨X1, 1, none⟩) iz).trans i1, (hc.cell (p := ⟨X1, 2, none⟩) iz).trans i2, (hc.cell (p := ⟨X1, 3, none⟩) iz).trans i3, (hc.cell (p := ⟨X1, 4, none⟩) iz).trans i4⟩ (fun hHeld2 => ?_)
  clear hK K hHeld
  have hHeld := hHeld2
  clear hHeld2
  try simp only [Act.put, List.setIfInBounds_toArray, List.set_cons_zero, List.set_cons_succ, List.getElem_toArray, List.getElem_cons_zero, List.getElem_cons_succ]
  (refine wpAnyH_take (i := 18) (v := ?_) rfl (by kernel_rfl) (by kernel_rfl) (by kernel_rfl) (fun _ _ _ h => h) (Or.inl ⟨by rfl, ?_⟩) (by assumption) ?_; rotate_left 1; (focus (intro w' hSw; (try dsimp only at hSw); go_simp; (try with_reducible rfl); done)); try simp only [Act.put, List.setIfInBounds_toArray, List.set_cons_zero, List.set_cons_succ, List.getElem_toArray, List.getElem_cons_zero, List.getElem_cons_succ])
  (refine wpAnyH_take (i := 19) (v := ?_) rfl (by kernel_rfl) (by kernel_rfl) (by kernel_rfl) (fun _ _ _ h => h) (Or.inl ⟨by rfl, ?_⟩) (by assumption) ?_; rotate_left 1; (focus (intro w' hSw; (try dsimp only at hSw); go_simp; (try with_reducible rfl); done)); try simp only [Act.put, List.setIfInBounds_toArray, List.set_cons_zero, List.set_cons_succ, List.getElem_toArray, List.getElem_cons_zero, List.getElem_cons_succ])
  (refine wpAnyH_take (i := 20) (v := ?_) rfl (by kernel_rfl) (by kernel_rfl) (by kernel_rfl) (fun _ _ _ h => h) (Or.inl ⟨by rfl, ?_⟩) (by assumption) ?_; rotate_left 1; (focus (intro w' hSw; (try dsimp only at hSw); go_simp; (try with_reducible rfl); done)); try simp only [Act.put, List.setIfInBounds_toArray, List.set_cons_zero, List.set_cons_succ, List.getElem_toArray, List.getElem_cons_zero, List.getElem_cons_succ])
  (refine wpAnyH_take (i := 22) (v := ?_) rfl (by kernel_rfl) (by kernel_rfl) (by kernel_rfl) (fun _ _ _ h => h) (Or.inl ⟨by rfl, ?_⟩) (by assumption) ?_; rotate_left 1; (focus (intro w' hSw; (try dsimp only at hSw); go_simp; (try with_reducible rfl); done)); try simp only [Act.put, List.setIfInBounds_toArray, List.set_cons_zero, List.set_cons_succ, List.getElem_toArray, List.getElem_cons_zero, List.getElem_cons_succ])
  (refine wpAnyH_take (i := 23) (v := ?_) rfl (by kernel_rfl) (by kernel_rfl) (by kernel_rfl) (fun _ _ _ h => h) (Or.inl ⟨by rfl, ?_⟩) (by assumption) ?_; rotate_left 1; (focus (intro w' hSw; (try dsimp only at hSw); go_simp; (try with_reducible rfl); done)); try simp only [Act.put, List.setIfInBounds_toArray, List.set_cons_zero, List.set_cons_succ, List.getElem_toArray, List.getElem_cons_zero, List.getElem_cons_succ])
  refine wpAnyH_ready (rs := [21]) (by kernel_rfl) (by simp) ?_
  refine AllReadyH.cons rfl (fun K hK => ?_) AllReadyH.nil
  go_simp
  go_at_call 38
  refine (semi_any _).mono ?_
  rintro e wn ⟨A14, c14, rfl, hr, hb⟩
  replace hc := hc.trans (Below.mono hb hc.size)
  clear hb
  go_wp2_with fail
  refine hK.out _ _ ⟨(hc.cell (p := ⟨X0, 0, none⟩) yz).trans y0, (hc.cell (p := ⟨X0, 1, none⟩) yz).trans y1, (hc.cell (p := ⟨X0, 2, none⟩) yz).trans y2, (hc.cell (p := ⟨X1, 0, none⟩) iz).trans i0, (hc.cell (p := ⟨X1, 1, none⟩) iz).trans i1, (hc.cell (p := ⟨X1, 2, none⟩) iz).trans i2, (hc.cell (p := ⟨X1, 3, none⟩) iz).trans i3, (hc.cell (p := ⟨X1, 4, none⟩) iz).trans i4⟩ (fun hHeld2 => ?_)
  clear hK K hHeld
  have hHeld := hHeld2
  clear hHeld2
  try simp only [Act.put, List.setIfInBounds_toArray, List.set_cons_zero, List.set_cons_succ, List.getElem_toArray, List.getElem_cons_zero, List.getElem_cons_succ]
  refine wpAnyH_ready (rs := [24]) (by kernel_rfl) (by simp) ?_
  refine AllReadyH.cons rfl (fun K hK => ?_) AllReadyH.nil
  go_simp
  go_at_call 10
  refine (H1.out _ _ _ hc hr).mono ?_
  rintro e wn ⟨rfl, hb⟩
  replace hc := hc.trans (Below.mono hb hc.size)
  clear hb
  clear hr
  go_wp2_with fail
  refine hK.out _ _ ⟨(hc.cell (p := ⟨X0, 0, none⟩) yz).trans y0, (hc.cell (p := ⟨X0, 1, none⟩) yz).trans y1, (hc.cell (p := ⟨X0, 2, none⟩) yz).trans y2, (hc.cell (p := ⟨X1, 0, none⟩) iz).trans i0, (hc.cell (p := ⟨X1, 1, none⟩) iz).trans i1, (hc.cell (p := ⟨X1, 2, none⟩) iz).trans i2, (hc.cell (p := ⟨X1, 3, none⟩) iz).trans i3, (hc.cell (p := ⟨X1, 4, none⟩) iz).trans i4⟩ (fun hHeld2 => ?_)
  clear hK K hHeld
  have hHeld := hHeld2
  clear hHeld2
  try simp only [Act.put, List.setIfInBounds_toArray, List.set_cons_zero, List.set_cons_succ, List.getElem_toArray, List.getElem_cons_zero, List.getElem_cons_succ]
  (refine wpAnyH_take (i := 25) (v := ?_) rfl (by kernel_rfl) (by kernel_rfl) (by kernel_rfl) (fun _ _ _ h => h) (Or.inl ⟨by rfl, ?_⟩) (by assumption) ?_; rotate_left 1; (focus (intro w' hSw; (try dsimp only at hSw); go_simp; (try with_reducible rfl); done)); try simp only [Act.put, List.setIfInBounds_toArray, List.set_cons_zero, List.set_cons_succ, List.getElem_toArray, List.getElem_cons_zero, List.getElem_cons_succ])
  (refine wpAnyH_take (i := 26) (v := ?_) rfl (by kernel_rfl) (by kernel_rfl) (by kernel_rfl) (fun _ _ _ h => h) (Or.inl ⟨by rfl, ?_⟩) (by assumption) ?_; rotate_left 1; (focus (intro w' hSw; (try dsimp only at hSw); go_simp; (try with_reducible rfl); done)); try simp only [Act.put, List.setIfInBounds_toArray, List.set_cons_zero, List.getElem_toArray, List.getElem_cons_zero, List.getElem_cons_succ])
  refine wpAnyH_done (by kernel_rfl) ?_ _
  clear hHeld
  go_wp2
  go_ret
  exact ⟨rfl, below_next HB3.out.drew (Nat.le_refl _) hc⟩
end Go.Proofs.YtmhbbjbbckdlbaaDoor
