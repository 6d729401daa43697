/-
  The laws' example of layer 4; what taking and giving back make of a valid space.
-/
import Derived.Test.YtpjhgdgdckndeaaDoorRefGive
import Derived.Test.YtpjhgdgdckndeaaDoorSpace
namespace Go.Proofs.YtpjhgdgdckndeaaDoor
open Go.RowKit
set_option maxRecDepth 100000
set_option linter.unusedVariables false

theorem stB_owner {o b : Int} (ho : okO o = true) (hb : okB b = true) : stB (b * 4294967296 + o) o = true := by
  have h1 := of_decide_eq_true ho
  have h2 := of_decide_eq_true hb
  refine (stB_of ⟨h1.1, h1.2, ?_⟩).symm
  omega
theorem valid_lift {s : Int} {nw n f : Nat} {wd : Nat → Int} {F : Nat → Fr} {o b : Int} (h : ValidP s nw wd n F) (hf : Least F n f) (ho : okO o = true) (hb : okB b = true) : ValidP s nw wd n (lift F f o (b * 4294967296 + o)) := by
  have hfr : F f = frFree := h.fv.free hf.1 hf.2.1
  have h1 := of_decide_eq_true ho
  exact ValidP.mk_ h.1 h.2.1 h.2.2.1 (lift_fv h.fv hfr (stB_owner ho hb)) (h.zr.mono (fun j _ hj => lift_free (by omega) hj))
theorem takeE_ok {s : Int} {nw n : Nat} {wd : Nat → Int} {F : Nat → Fr} {o b : Int} (h : ValidP s nw wd n F) (ho : okO o = true) (hb : okB b = true) (h2 : ∀ f, f < n → (F f).ow = o → (F f).st = b * 4294967296 + o) (h3 : ∃ f, f < n ∧ (F f).ow = -1) : takeE s nw wd n F o b = 0 := by
  refine take_ok (by rw [validB_yes h, ho, hb]; rfl) ?_ ?_
  · cases e : anyB F o (b * 4294967296 + o) n
    · rfl
    · obtain ⟨f, a1, a2, a3⟩ := (anyB_iff F o (b * 4294967296 + o) n).1 e
      exact absurd (h2 f a1 a2) a3
  · obtain ⟨f, a1, a2⟩ := h3
    intro e
    have h4 : cntP (owB F (-1)) (f + 1) ≤ cntP (owB F (-1)) n := cntP_mono _ (by omega)
    simp only [cntP] at h4
    rw [owB_yes a2] at h4
    simp at h4
    omega
theorem least_is {F : Nat → Fr} {n f g : Nat} (h : Least F n f) (hg : g < n) (h1 : (F g).ow = -1) (h2 : ∀ j, j < g → (F j).ow ≠ -1) : f = g := by
  rcases Nat.lt_trichotomy f g with e | e | e
  · exact absurd h.2.1 (h2 f e)
  · exact e
  · exact absurd h1 (h.2.2 g e)
/-- What Take gives where it gives a space. -/
def TakeYes (s : Int) (nw : Nat) (wd : Nat → Int) (n : Nat) (F : Nat → Fr) (f : Nat) (o b : Int) (w : World) (e : Ending) (w' : World) : Prop :=
  ∃ (A1 : Option Addr) (c1 g c2 : Nat), e = .returned (.tuple #[.agg #[.int .i64 s, .slice A1 nw c1, .slice (some ⟨g, 0, none⟩) n c2], .int .i64 f, .int .i64 0]) ∧
    Own w' w.heap.size A1 nw c1 wd ∧ OwnT w' w.heap.size (some ⟨g, 0, none⟩) n c2 (lift F f o (b * 4294967296 + o)) ∧ Below w.heap.size w w'
theorem TakeOut.yes {s : Int} {nw n f : Nat} {wd : Nat → Int} {F : Nat → Fr} {o b : Int} {w w' : World} {e : Ending} (h : TakeOut s nw wd n F o b w e w') (h0 : takeE s nw wd n F o b = 0) (hf : Least F n f) : TakeYes s nw wd n F f o b w e w' := by
  rcases h with ⟨x, h1, h2, _⟩ | ⟨_, f', A1, c1, g, c2, hl, he, h1, h2, h3⟩
  · exact absurd (h1.symm.trans h0) h2
  · obtain rfl : f' = f := least_is hl hf.1 hf.2.1 hf.2.2
    exact ⟨A1, c1, g, c2, he, h1, h2, h3⟩
def GiveYes (s : Int) (nw : Nat) (wd : Nat → Int) (n : Nat) (F : Nat → Fr) (m : Nat) (o : Int) (w : World) (e : Ending) (w' : World) : Prop :=
  ∃ (A1 : Option Addr) (c1 g c2 : Nat), e = .returned (.tuple #[.agg #[.int .i64 s, .slice A1 nw c1, .slice (some ⟨g, 0, none⟩) n c2], .int .i64 m, .int .i64 0]) ∧
    Own w' w.heap.size A1 nw c1 (giveW wd F o s.toNat n) ∧ OwnT w' w.heap.size (some ⟨g, 0, none⟩) n c2 (giveF F o n) ∧ Below w.heap.size w w'
theorem GiveOut.yes {s : Int} {nw n m : Nat} {wd : Nat → Int} {F : Nat → Fr} {o : Int} {w w' : World} {e : Ending} (h : GiveOut s nw wd n F o w e w') (hv : ValidP s nw wd n F) (ho : okO o = true) (hm : cntP (owB F o) n = m) (h0 : m ≠ 0) : GiveYes s nw wd n F m o w e w' := by
  rcases h with ⟨x, h1, h2, _⟩ | ⟨_, A1, c1, g, c2, he, h1, h2, h3⟩
  · have := give_ok (s := s) (nw := nw) (wd := wd) (F := F) (o := o) (n := n) (by rw [validB_yes hv, ho]; rfl) (by rw [hm]; exact h0)
    exact absurd (h1.symm.trans this) h2
  · rw [hm] at he
    exact ⟨A1, c1, g, c2, he, h1, h2, h3⟩

def F0 : Nat → Fr := fun _ => frFree
def F1 : Nat → Fr := lift F0 0 5 (0 * 4294967296 + 5)
def F2 : Nat → Fr := lift F1 1 6 (1 * 4294967296 + 6)
def F3 : Nat → Fr := lift F0 1 6 (1 * 4294967296 + 6)
theorem aw_v0 : ValidP (3 : Int) 24 (fun _ => 0) 3 F0 := valid_fresh (k := 3) (n := 3) (by decide) (by decide) (by decide) (by decide)
theorem aw_l0 : Least F0 3 0 := ⟨by decide, rfl, fun j hj => absurd hj (by omega)⟩
theorem aw_v1 : ValidP (3 : Int) 24 (fun _ => 0) 3 F1 := valid_lift aw_v0 aw_l0 (by decide) (by decide)
theorem aw_l1 : Least F1 3 1 := by
  refine ⟨by decide, rfl, fun j hj => ?_⟩
  have e : j = 0 := by omega
  subst e
  decide
theorem aw_v2 : ValidP (3 : Int) 24 (fun _ => 0) 3 F2 := valid_lift aw_v1 aw_l1 (by decide) (by decide)
theorem aw_v3 : ValidP (3 : Int) 24 (fun _ => 0) 3 F3 := by
  have hfr : F0 1 = frFree := rfl
  exact ValidP.mk_ aw_v0.1 aw_v0.2.1 aw_v0.2.2.1 (lift_fv aw_v0.fv hfr (stB_owner (by decide) (by decide))) (aw_v0.zr.mono (fun j _ hj => lift_free (by decide) hj))
theorem aw_g2 : ∀ j, j < 3 → giveF F2 5 3 j = F3 j := by
  intro j hj
  rcases (show j = 0 ∨ j = 1 ∨ j = 2 by omega) with rfl | rfl | rfl <;> rfl
theorem aw_l3 : Least F3 3 0 := ⟨by decide, rfl, fun j hj => absurd hj (by omega)⟩
theorem aw_t0 : takeE (3 : Int) 24 (fun _ => 0) 3 F0 5 0 = 0 := takeE_ok aw_v0 (by decide) (by decide) (fun f _ h => absurd h (by show ¬ (-1 : Int) = 5; decide)) ⟨0, by decide, rfl⟩
theorem aw_t1 : takeE (3 : Int) 24 (fun _ => 0) 3 F1 6 1 = 0 := takeE_ok aw_v1 (by decide) (by decide) (fun f hf h => by
  rcases (show f = 0 ∨ f = 1 ∨ f = 2 by omega) with rfl | rfl | rfl <;> exact absurd h (by decide)) ⟨1, by decide, rfl⟩
theorem aw_t3 : takeE (3 : Int) 24 (fun _ => 0) 3 F3 7 0 = 0 := takeE_ok aw_v3 (by decide) (by decide) (fun f hf h => by
  rcases (show f = 0 ∨ f = 1 ∨ f = 2 by omega) with rfl | rfl | rfl <;> exact absurd h (by decide)) ⟨0, by decide, rfl⟩

theorem Blk.set3 {w : World} {b : Nat} {t : TypeId} {a0 a1 a2 : Value} (h : Blk w b t #[a0, a1, a2]) (v0 v1 v2 : Value) : Blk (((w.setCell ⟨b, 0, none⟩ v0).setCell ⟨b, 1, none⟩ v1).setCell ⟨b, 2, none⟩ v2) b t #[v0, v1, v2] :=
  ((h.set_ 0 v0).set_ 1 v1).set_ 2 v2
theorem Arr.put3 {w : World} {B b n c : Nat} {A : Option Addr} {f : Nat → Int} (h : Arr w B A n c f) (hb : B ≤ b) (v0 v1 v2 : Value) : Arr (((w.setCell ⟨b, 0, none⟩ v0).setCell ⟨b, 1, none⟩ v1).setCell ⟨b, 2, none⟩ v2) B A n c f :=
  h.below (below_put3 (Below.refl _ _) hb _ _ _)

set_option maxHeartbeats 4000000 in
theorem awake4_any (w : World) (hD : Db w) : Calls Tryd.prog 14 #[] w fun e w' => e = .returned (.bool true) ∧ Below w.heap.size w w' := by
  have HD := Lib.hid hD
  clear hD
  go_enter Tryd.func14, Tryd.ntmps14
  go_upto_region 2 with (go_at_call 24; refine (refNew_yes 3 3 _ (by decide) (by decide) (by decide) (by decide)).mono ?_; rintro e w1 ⟨A, A', rfl, ha, ht, hb1⟩)
  obtain ⟨V1, hV1⟩ : ∃ V, V = w1.alloc (.cells #[.int .i64 3, .slice A 24 24, .slice A' 3 3] 26) := ⟨_, rfl⟩
  have hbv : Below w1.heap.size w1 V1 := by rw [hV1]; exact (Below.refl _ _).alloc (Nat.le_refl _) _
  have BX1 := Lib.hid (show Blk V1 w1.heap.size 26 #[.int .i64 3, .slice A 24 24, .slice A' 3 3] by rw [hV1]; exact Blk.new _ _ _)
  have HA1 := Lib.hid (ha.arr.next hbv)
  have HT1 := Lib.hid (ht.tab.next hbv)
  have HB1 := Lib.hid (below_next hb1 (Nat.le_refl _) hbv)
  have HD1 := Lib.hid (HD.out.next HB1.out)
  have z1 : w.heap.size ≤ w1.heap.size := hb1.size
  have p0 := BX1.out.cell 0
  have p1 := BX1.out.cell 1
  have p2 := BX1.out.cell 2
  have pz := BX1.out.lt
  have HV1 := Lib.hid hV1
  simp at p0 p1 p2
  clear hV1 hbv ha ht hb1
  go_upto_region 3 with (go_at_call 18; rw [← HV1.out]; refine ((take_any 3 _ _ 24 _ 3 _ (fun _ => 0) F0 5 0 V1 HA1.out HT1.out HD1.out).mono (fun e w' h => h.yes aw_t0 aw_l0)).mono ?_; rintro e w2 ⟨A2, c2, g2, d2, rfl, ha, ht, hb⟩; have X := BX1.out.next hb; have x0 := X.cell 0; have x1 := X.cell 1; have x2 := X.cell 2; have f0 := X.frozen 0; have f1 := X.frozen 1; have f2 := X.frozen 2; have xz := X.lt; simp at x0 x1 x2)
  obtain ⟨V2, hV2⟩ : ∃ V, V = ((w2.setCell ⟨w1.heap.size, 0, none⟩ (.int .i64 3)).setCell ⟨w1.heap.size, 1, none⟩ (.slice A2 24 c2)).setCell ⟨w1.heap.size, 2, none⟩ (.slice (some ⟨g2, 0, none⟩) 3 d2) := ⟨_, rfl⟩
  have BX2 := Lib.hid (show Blk V2 w1.heap.size 26 #[.int .i64 3, .slice A2 24 c2, .slice (some ⟨g2, 0, none⟩) 3 d2] by rw [hV2]; exact (BX1.out.next hb).set3 _ _ _)
  have HA2 := Lib.hid (show Arr V2 V2.heap.size A2 24 c2 (fun _ => 0) by rw [hV2]; exact (ha.put3 BX1.out.lt _ _ _).arr)
  have HT2 := Lib.hid (show Tab V2 V2.heap.size (some ⟨g2, 0, none⟩) 3 d2 F1 by rw [hV2]; exact (ht.put3 BX1.out.lt _ _ _).tab)
  have HB2 := Lib.hid (show Below w.heap.size w V2 by rw [hV2]; exact below_put3 (below_next HB1.out (Nat.le_refl _) hb) z1 _ _ _)
  have HD2 := Lib.hid (HD.out.next HB2.out)
  have HV2 := Lib.hid hV2
  clear x0 x1 x2 f0 f1 f2 xz X p0 p1 p2 pz
  have p0 := BX2.out.cell 0
  have p1 := BX2.out.cell 1
  have p2 := BX2.out.cell 2
  have pz := BX2.out.lt
  simp at p0 p1 p2
  clear hV2 ha ht hb
  rw [← HV2.out]
  go_upto_region 4 with (go_at_call 18; refine ((take_any 3 _ _ 24 _ 3 _ (fun _ => 0) F1 6 1 V2 HA2.out HT2.out HD2.out).mono (fun e w' h => h.yes aw_t1 aw_l1)).mono ?_; rintro e w3 ⟨A3, c3, g3, d3, rfl, ha, ht, hb⟩; have X := BX2.out.next hb; have x0 := X.cell 0; have x1 := X.cell 1; have x2 := X.cell 2; have f0 := X.frozen 0; have f1 := X.frozen 1; have f2 := X.frozen 2; have xz := X.lt; simp at x0 x1 x2)
  obtain ⟨V3, hV3⟩ : ∃ V, V = ((w3.setCell ⟨w1.heap.size, 0, none⟩ (.int .i64 3)).setCell ⟨w1.heap.size, 1, none⟩ (.slice A3 24 c3)).setCell ⟨w1.heap.size, 2, none⟩ (.slice (some ⟨g3, 0, none⟩) 3 d3) := ⟨_, rfl⟩
  have BX3 := Lib.hid (show Blk V3 w1.heap.size 26 #[.int .i64 3, .slice A3 24 c3, .slice (some ⟨g3, 0, none⟩) 3 d3] by rw [hV3]; exact (BX2.out.next hb).set3 _ _ _)
  have HA3 := Lib.hid (show Arr V3 V3.heap.size A3 24 c3 (fun _ => 0) by rw [hV3]; exact (ha.put3 BX2.out.lt _ _ _).arr)
  have HT3 := Lib.hid (show Tab V3 V3.heap.size (some ⟨g3, 0, none⟩) 3 d3 F2 by rw [hV3]; exact (ht.put3 BX2.out.lt _ _ _).tab)
  have HB3 := Lib.hid (show Below w.heap.size w V3 by rw [hV3]; exact below_put3 (below_next HB2.out (Nat.le_refl _) hb) z1 _ _ _)
  have HD3 := Lib.hid (HD.out.next HB3.out)
  have HV3 := Lib.hid hV3
  clear x0 x1 x2 f0 f1 f2 xz X p0 p1 p2 pz
  have p0 := BX3.out.cell 0
  have p1 := BX3.out.cell 1
  have p2 := BX3.out.cell 2
  have pz := BX3.out.lt
  simp at p0 p1 p2
  clear hV3 ha ht hb
  rw [← HV3.out]
  go_upto_region 5 with (go_at_call 21; refine ((give_any 3 _ _ 24 _ 3 _ (fun _ => 0) F2 5 V3 HA3.out HT3.out HD3.out).mono (fun e w' h => h.yes (m := 1) aw_v2 (by decide) (by decide) (by decide))).mono ?_; rintro e w4 ⟨A4, c4, g4, d4, rfl, ha, ht, hb⟩; have ha := ha.congr (f' := fun _ => 0) (fun j _ => by unfold giveW; split <;> rfl); have ht := ht.congr aw_g2; have X := BX3.out.next hb; have x0 := X.cell 0; have x1 := X.cell 1; have x2 := X.cell 2; have f0 := X.frozen 0; have f1 := X.frozen 1; have f2 := X.frozen 2; have xz := X.lt; simp at x0 x1 x2)
  obtain ⟨V4, hV4⟩ : ∃ V, V = ((w4.setCell ⟨w1.heap.size, 0, none⟩ (.int .i64 3)).setCell ⟨w1.heap.size, 1, none⟩ (.slice A4 24 c4)).setCell ⟨w1.heap.size, 2, none⟩ (.slice (some ⟨g4, 0, none⟩) 3 d4) := ⟨_, rfl⟩
  have BX4 := Lib.hid (show Blk V4 w1.heap.size 26 #[.int .i64 3, .slice A4 24 c4, .slice (some ⟨g4, 0, none⟩) 3 d4] by rw [hV4]; exact (BX3.out.next hb).set3 _ _ _)
  have HA4 := Lib.hid (show Arr V4 V4.heap.size A4 24 c4 (fun _ => 0) by rw [hV4]; exact (ha.put3 BX3.out.lt _ _ _).arr)
  have HT4 := Lib.hid (show Tab V4 V4.heap.size (some ⟨g4, 0, none⟩) 3 d4 F3 by rw [hV4]; exact (ht.put3 BX3.out.lt _ _ _).tab)
  have HB4 := Lib.hid (show Below w.heap.size w V4 by rw [hV4]; exact below_put3 (below_next HB3.out (Nat.le_refl _) hb) z1 _ _ _)
  have HD4 := Lib.hid (HD.out.next HB4.out)
  have HV4 := Lib.hid hV4
  clear x0 x1 x2 f0 f1 f2 xz X p0 p1 p2 pz
  have p0 := BX4.out.cell 0
  have p1 := BX4.out.cell 1
  have p2 := BX4.out.cell 2
  have pz := BX4.out.lt
  simp at p0 p1 p2
  clear hV4 ha ht hb
  rw [← HV4.out]
  go_upto_region 6 with (go_at_call 18; refine ((take_any 3 _ _ 24 _ 3 _ (fun _ => 0) F3 7 0 V4 HA4.out HT4.out HD4.out).mono (fun e w' h => h.yes aw_t3 aw_l3)).mono ?_; rintro e w5 ⟨A5, c5, g5, d5, rfl, ha, ht, hb⟩)
  have HB5 := Lib.hid ((below_next HB4.out (Nat.le_refl _) hb).alloc (below_next HB4.out (Nat.le_refl _) hb).size (.cells #[.int .i64 3, .slice A5 24 c5, .slice (some ⟨g5, 0, none⟩) 3 d5] 26))
  clear ha ht hb
  go_wp2
  go_ret
  exact ⟨rfl, HB5.out⟩
end Go.Proofs.YtpjhgdgdckndeaaDoor
