/-
  The laws' own twisted; the example of layer 9. (Made by mkawk-s9.py.)
-/
import Derived.Test.YthcfcciemjkilaaDoorDrp
import Derived.Deep.RegionWith
import Derived.Deep.CutBlock
import Derived.Deep.RegionHeld3
import Derived.Deep.DeepCutAuto
namespace Go.Proofs.YthcfcciemjkilaaDoor
open Go.RowKit
set_option maxRecDepth 100000
set_option linter.unusedVariables false

def TwCut (w wx : World) : Prop := ∃ x0 x1 x2 x3 x4 : Int, Blk wx w.heap.size 35 #[.int .i64 x0, .int .i64 x1, .int .i64 x2, .int .i64 x3, .int .i64 x4] ∧ Blk wx (w.heap.size + 1) 35 #[.int .i64 0, .int .i64 0, .int .i64 0, .int .i64 0, .int .i64 0] ∧ Below w.heap.size w wx
theorem tw_set {w wx : World} {x0 x1 x2 x3 x4 : Int} (h1 : Blk wx w.heap.size 35 #[.int .i64 x0, .int .i64 x1, .int .i64 x2, .int .i64 x3, .int .i64 x4]) (h2 : Blk wx (w.heap.size + 1) 35 #[.int .i64 0, .int .i64 0, .int .i64 0, .int .i64 0, .int .i64 0]) (h3 : Below w.heap.size w wx) (r : Nat) (hr : r < 5) (v : Int) : TwCut w (wx.setCell ⟨w.heap.size, r, none⟩ (.int .i64 v)) := by
  have h2' := h2.far (p := ⟨w.heap.size, r, none⟩) (by show w.heap.size + 1 ≠ w.heap.size; omega) (.int .i64 v)
  have h3' := h3.setCell (p := ⟨w.heap.size, r, none⟩) (Nat.le_refl _) (.int .i64 v)
  have h1' := h1.set_ r (.int .i64 v)
  rcases (by omega : r = 0 ∨ r = 1 ∨ r = 2 ∨ r = 3 ∨ r = 4) with e | e | e | e | e <;> subst e <;> exact ⟨_, _, _, _, _, h1', h2', h3'⟩
theorem TwCut.drew9 {w wx : World} (h : TwCut w wx) : TwCut w wx.drew := by
  obtain ⟨x0, x1, x2, x3, x4, h1, h2, h3⟩ := h
  exact ⟨x0, x1, x2, x3, x4, h1, h2, h3.drew⟩

/-- What Alloc gives where it gives a space. -/
def AllYes (s : Int) (nw n : Nat) (wd : Nat → Int) (F' : Nat → Fr) (sq bt fi' la' wo' a : Int) (w : World) (e : Ending) (w' : World) : Prop :=
  ∃ (A1 : Option Addr) (c1 g c2 : Nat), e = .returned (.tuple #[.agg #[.int .i64 s, .slice A1 nw c1, .slice (some ⟨g, 0, none⟩) n c2], .agg #[.int .i64 sq, .int .i64 bt, .int .i64 fi', .int .i64 la', .int .i64 wo'], .int .i64 a, .int .i64 0]) ∧
    Own w' w.heap.size A1 nw c1 wd ∧ OwnT w' w.heap.size (some ⟨g, 0, none⟩) n c2 F' ∧ Below w.heap.size w w'
theorem AllX.yes {s : Int} {nw n : Nat} {wd : Nat → Int} {F F' : Nat → Fr} {sq bt fi la wo d fi' la' a wo' : Int} {w w' : World} {e : Ending} (h : AllX s nw wd n F sq bt fi la wo d w e w') (h0 : allE s nw wd n F sq bt fi la wo d = 0) (hg : allG s n F sq bt fi la wo d = ⟨F', fi', la'⟩) (ha : addrP F' s.toNat fi' wo.toNat = a) (hw : wo + d = wo') : AllYes s nw n wd F' sq bt fi' la' wo' a w e w' := by
  rcases h with ⟨x, h1, h2, _⟩ | ⟨_, A1, c1, g, c2, he, ho, ht, hb⟩
  · exact absurd (h1.symm.trans h0) h2
  · rw [hg] at he ht
    rw [← ha, ← hw]
    exact ⟨A1, c1, g, c2, he, ho, ht, hb⟩

def Q0 : Nat → Fr := fun _ => frFree
def Q1 : Nat → Fr := lift Q0 0 0 (0 * 4294967296 + 0)
def Q2 : Nat → Fr := link (lift Q1 1 0 (0 * 4294967296 + 0)) 0 (1 : Nat)
theorem q_v0 : ValidP (3 : Nat) 32 (fun _ => 0) 4 Q0 := valid_fresh (k := 3) (n := 4) (by decide) (by decide) (by decide) (by decide)
theorem q_l0 : Least Q0 4 0 := ⟨by decide, rfl, fun j hj => absurd hj (by omega)⟩
theorem q_l1 : Least Q1 4 1 := by
  refine ⟨by decide, rfl, fun j hj => ?_⟩
  obtain rfl : j = 0 := by omega
  decide
theorem q_e0 : allE (3 : Nat) 32 (fun _ => 0) 4 Q0 0 0 (-1) (-1) 0 5 = 0 := by
  refine allE_ok (fun h => ?_) (fun h => absurd h.2 (by decide)) (by decide)
  rcases h with h | h | h
  · rw [incB_mk q_v0 (fits_new (by decide) (by decide) (by decide) (by decide))] at h; cases h
  · exact absurd h (by decide)
  · exact absurd h (by decide)
theorem q_g0 : allG (3 : Nat) 4 Q0 0 0 (-1) (-1) 0 5 = ⟨Q1, 0, 0⟩ := growG_first (t := 0) rfl q_l0
theorem q_e1 : allE (3 : Nat) 32 (fun _ => 0) 4 Q1 0 0 0 0 5 6 = 0 := by
  obtain ⟨W, D, hW, hD, _, _, _, hv, hf, _⟩ := all_valid q_e0
  obtain rfl : W = 0 := by omega
  obtain rfl : D = 5 := by omega
  rw [q_g0] at hv hf
  dsimp only at hv hf
  refine allE_ok (fun h => ?_) (fun h => absurd h.1 (by decide)) (by decide)
  rcases h with h | h | h
  · exact absurd ((incB_mk hv hf).symm.trans h) (by decide)
  · exact absurd h (by decide)
  · exact absurd h (by decide)
theorem q_g1 : allG (3 : Nat) 4 Q1 0 0 0 0 5 6 = ⟨Q2, 0, 1⟩ := growG_next (t := 0) (p := 0) (l := 0) rfl q_l1

set_option maxHeartbeats 4000000 in
theorem awake9_any (w : World) (hD : Db w) : Calls Tryd.prog 5 #[] w fun e w' => e = .returned (.bool true) ∧ Below w.heap.size w w' := by
  have HD := Lib.hid hD
  clear hD
  go_enter Tryd.func5, Tryd.ntmps5
  go_wp2_with fail
  refine (refNew_yes 3 4 _ (by decide) (by decide) (by decide) (by decide)).mono ?_
  rintro e w1 ⟨A, A', rfl, ha, ht, hb1⟩
  obtain ⟨V, hV⟩ : ∃ V, V = w1.alloc (.cells #[.int .i64 3, .slice A 32 32, .slice A' 4 4] 30) := ⟨_, rfl⟩
  have hbv : Below w1.heap.size w1 V := by rw [hV]; exact (Below.refl _ _).alloc (Nat.le_refl _) _
  have BX := Lib.hid (show Blk V w1.heap.size 30 #[.int .i64 3, .slice A 32 32, .slice A' 4 4] by rw [hV]; exact Blk.new _ _ _)
  have HA1 := Lib.hid (ha.arr.next hbv)
  have HT1 := Lib.hid (ht.tab.next hbv)
  have HB1 := Lib.hid (below_next hb1 (Nat.le_refl _) hbv)
  have HD1 := Lib.hid (HD.out.next HB1.out)
  have z1 : w.heap.size ≤ w1.heap.size := hb1.size
  have p0 := BX.out.cell 0
  have p1 := BX.out.cell 1
  have p2 := BX.out.cell 2
  have pz := BX.out.lt
  have HV := Lib.hid hV
  simp at p0 p1 p2
  clear hV hbv ha ht hb1
  go_wp2_with fail
  rw [← HV.out]
  refine ((all9_any 3 A A' 32 32 4 4 (fun _ => 0) Q0 0 0 (-1) (-1) 0 5 V HA1.out HT1.out HD1.out).mono (fun e w' h => h.yes q_e0 q_g0 (a := 0) (by decide) (wo' := 5) (by decide))).mono ?_
  rintro e w2 ⟨A2, c2, g2, d2, rfl, ho, ht, hb2⟩
  have X := BX.out.next hb2
  have x0 := X.cell 0
  have x1 := X.cell 1
  have x2 := X.cell 2
  have xf0 := X.frozen 0
  have xf1 := X.frozen 1
  have xf2 := X.frozen 2
  have xz := X.lt
  simp at x0 x1 x2
  obtain ⟨V2, hV2⟩ : ∃ V2, V2 = (((w2.setCell ⟨w1.heap.size, 0, none⟩ (.int .i64 3)).setCell ⟨w1.heap.size, 1, none⟩ (.slice A2 32 c2)).setCell ⟨w1.heap.size, 2, none⟩ (.slice (some ⟨g2, 0, none⟩) 4 d2)).alloc (.cells #[.int .i64 0, .int .i64 0, .int .i64 0, .int .i64 0, .int .i64 5] 35) := ⟨_, rfl⟩
  have BX2 := Lib.hid (show Blk V2 w1.heap.size 30 #[.int .i64 3, .slice A2 32 c2, .slice (some ⟨g2, 0, none⟩) 4 d2] by rw [hV2]; exact (X.set3 _ _ _).alloc _)
  have BI2 := Lib.hid (show Blk V2 w2.heap.size 35 #[.int .i64 0, .int .i64 0, .int .i64 0, .int .i64 0, .int .i64 5] by rw [hV2]; exact Blk.newAt _ _ _ _ (by simp))
  have HA2 := Lib.hid (show Arr V2 V2.heap.size A2 32 c2 (fun _ => 0) by rw [hV2]; exact ((ho.put3 BX.out.lt _ _ _).alloc9 _).arr)
  have HT2 := Lib.hid (show Tab V2 V2.heap.size (some ⟨g2, 0, none⟩) 4 d2 Q1 by rw [hV2]; exact ((ht.put3 BX.out.lt _ _ _).alloc9 _).tab)
  have HB2 := Lib.hid (show Below w.heap.size w V2 by rw [hV2]; exact below_alloc9 (below_put3 (below_next HB1.out (Nat.le_refl _) hb2) z1 _ _ _) _)
  have HD2 := Lib.hid (HD.out.next HB2.out)
  have HV2 := Lib.hid hV2
  have y0 := BX2.out.cell 0
  have y1 := BX2.out.cell 1
  have y2 := BX2.out.cell 2
  have yz := BX2.out.lt
  have i0 := BI2.out.cell 0
  have i1 := BI2.out.cell 1
  have i2 := BI2.out.cell 2
  have i3 := BI2.out.cell 3
  have i4 := BI2.out.cell 4
  have iz := BI2.out.lt
  simp at y0 y1 y2 i0 i1 i2 i3 i4
  clear hV2 ho ht hb2 X p0 p1 p2 pz
  go_upto_region 3 with fail
  rw [← HV2.out]
  clear x0 x1 x2 xf0 xf1 xf2 xz
  go_wp2_with fail
  refine ((all9_any 3 A2 (some ⟨g2, 0, none⟩) 32 c2 4 d2 (fun _ => 0) Q1 0 0 0 0 5 6 V2 HA2.out HT2.out HD2.out).mono (fun e w' h => h.yes q_e1 q_g1 (a := 5) (by decide) (wo' := 11) (by decide))).mono ?_
  rintro e w3 ⟨A3, c3, g3, d3, rfl, ho, ht, hb3⟩
  have HB3 := Lib.hid (below_next HB2.out (Nat.le_refl _) hb3)
  clear ho ht hb3
  go_wp2
  go_ret
  exact ⟨rfl, below_alloc9 (below_alloc9 HB3.out _) _⟩
end Go.Proofs.YthcfcciemjkilaaDoor
