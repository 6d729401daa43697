/-
  The walk of PresetRelated.
-/
import Derived.Test.YtnoeefbipdpeaaaPFact
import Derived.Deep.RegionHeld3
import Derived.Deep.RegionWith
import Derived.RegionTactic
import Derived.BigRegion
namespace Go.Proofs.Ytnoeefbipdpeaaa
open Go.RowKit
set_option maxRecDepth 100000
set_option linter.unusedVariables false

theorem ROwn.off {w : World} {B : Nat} {v : Value} {R : List Rl} (h : ROwn w B v R) {p : Addr} (hp : ∀ k, v.ownBlock = some k → k ≠ p.block) (u : Value) : ROwn (w.setCell p u) B v R := by
  obtain ⟨hl, h⟩ := h
  refine ⟨hl, h.imp id fun ⟨g, cap, cur, h1, h2, h3, h4⟩ => ⟨g, cap, cur, h1, h2, (Below.heap_setCell w p u g (hp g (by rw [h1]; rfl))).trans h3, h4⟩⟩
theorem pct_same : ∀ n : Fin 101, Op.floatEq .f64 (Sh.pctF n) (Sh.pctF n) = true := by decide +kernel
theorem run_same_float (d : Nat) (x : Nat) (hx : Op.floatEq .f64 x x = true) (W : World) : (Op.equalIn (d + 1) 39 (.float .f64 x) (.float .f64 x)).run Try.prog W = .ok true W := by
  simp [Op.equalIn, run_underlying Try.underlying39, hx]
/-- A box that holds a preset, and its rules in front of it. -/
def BoxP (X : World) (lo b : Nat) (i x : Nat) (A : Option Addr) (c : Nat) : Prop :=
  Blk X b 28 #[.string (preN i), .slice A (preR x i).length c, .int .i64 (preF i)] ∧ ROwn X lo (.slice A (preR x i).length c) (preR x i) ∧ RArr X (Rng lo b) A c (preR x i) ∧ lo ≤ b
theorem BoxP.next {X Y : World} {lo b i x c : Nat} {A : Option Addr} (h : BoxP X lo b i x A c) (hb : Below X.heap.size X Y) : BoxP Y lo b i x A c := by
  obtain ⟨h1, h2, h3, h4⟩ := h
  have hl := h1.lt
  exact ⟨h1.next hb, h2.next hb, h3.keep fun g o hp => hb.cell (p := ⟨g, o, none⟩) (by have := hp.2; show g < _; omega), h4⟩
theorem BoxP.apart {X Z : World} {lo b i x c : Nat} {A : Option Addr} (h : BoxP X lo b i x A c) (hk : ∀ g, lo ≤ g → g ≤ b → Z.heap[g]? = X.heap[g]?) : Blk Z b 28 #[.string (preN i), .slice A (preR x i).length c, .int .i64 (preF i)] ∧ RArr Z (Rng lo b) A c (preR x i) := by
  obtain ⟨h1, h2, h3, h4⟩ := h
  exact ⟨(hk b h4 (Nat.le_refl _)).trans h1, h3.keep fun g o hp => World.cell?_of_block (hk g hp.1 (Nat.le_of_lt hp.2))⟩
/-- A preset by its name, put into a box. -/
def Box14 (i x : Nat) (W : World) (e : Ending) (w' : World) : Prop := ∃ A c, e = .returned (.tuple #[.agg #[.string (preN i), .slice A (preR x i).length c, .int .i64 (preF i)], .int .i64 0]) ∧ Below W.heap.size W w' ∧
  BoxP (w'.alloc (.cells #[.string (preN i), .slice A (preR x i).length c, .int .i64 (preF i)] 28)) W.heap.size w'.heap.size i x A c
theorem box14 (i : Nat) (hi : i < 6) (p : Int) (hp : okP p) (w : World) : Calls Try.prog 9 #[.string (preN i), .int .i64 p] w (Box14 i (Sh.pcF p) w) := by
  refine (get14_any (preN i) p (by have := hp.1; omega) (by have := hp.2; omega) w).mono ?_
  obtain ⟨e1, e2, e3, e4⟩ := gets_yes hi hp
  unfold GetOf
  rw [e1, e2, e3, e4]
  rintro e W ⟨v, rfl, hv, hb⟩
  obtain ⟨A, c, rfl, hra⟩ := hv.slice
  have ha : Below W.heap.size W (W.alloc (.cells #[.string (preN i), .slice A (preR (Sh.pcF p) i).length c, .int .i64 (preF i)] 28)) := (Below.refl _ _).alloc (Nat.le_refl _) _
  exact ⟨A, c, rfl, hb, Blk.new _ _ _, hv.next ha, hra.keep fun g o hp => ha.cell (p := ⟨g, o, none⟩) hp.2, hb.size⟩
set_option maxHeartbeats 8000000 in
theorem walkRel (w : World) (p0 q0 : Int) (l0 : -9223372036854775808 ≤ p0) (u0 : p0 ≤ 9223372036854775807) (l1 : -9223372036854775808 ≤ q0) (u1 : q0 ≤ 9223372036854775807) :
    Calls Try.prog 5 #[.int .i64 p0, .int .i64 q0] w fun e w' => e = .returned (.bool true) ∧ Below w.heap.size w w' := by
  have hma := fun W => mod_any p0 100 (by decide) (by decide) l0 u0 W
  have hmb := fun W => mod_any q0 100 (by decide) (by decide) l1 u1 W
  have hwa : IntKind.i64.wrap (1 + p0 % 100) = 1 + p0 % 100 := IntWalk.i64_in _ (by omega)
  have hwb : IntKind.i64.wrap (1 + q0 % 100) = 1 + q0 % 100 := IntWalk.i64_in _ (by omega)
  have hpa : okP (1 + p0 % 100) := ⟨by omega, by omega⟩
  have hpb : okP (1 + q0 % 100) := ⟨by omega, by omega⟩
  generalize p0 % 100 = ra at *
  generalize q0 % 100 = rb at *
  obtain ⟨ka, ha100, ea, pa0, pa1⟩ := okP_share hpa
  have hsame : ∀ W, (Op.equalIn 9999 39 (.float .f64 (Sh.pctF ka)) (.float .f64 (Sh.pctF ka))).run Try.prog W = .ok true W := fun W => run_same_float 9998 _ (pct_same ⟨ka, by omega⟩) W
  obtain ⟨kb, _, eb, pb0, pb1⟩ := okP_share hpb
  have g1 := fun W => box14 4 (by omega) (1 + ra) hpa W
  have g2 := fun W => box14 5 (by omega) (1 + ra) hpa W
  have g3 := fun W => box14 2 (by omega) (1 + ra) hpa W
  have g4 := fun W => box14 1 (by omega) (1 + rb) hpb W
  have g5 := fun W => box14 0 (by omega) (1 + ra) hpa W
  have g6 := fun W => box14 0 (by omega) (1 + rb) hpb W
  rw [ea] at g1 g2 g3 g5
  rw [eb] at g4 g6
  generalize Sh.pctF ka = xa at *
  generalize Sh.pctF kb = xb at *
  have HPA := Lib.hid hpa
  have HPB := Lib.hid hpb
  clear hpa hpb ea eb
  go_enter Try.func5, Try.ntmps5
  go_wp2_with fail
  refine (hma _).mono ?_
  rintro e W0 ⟨rfl, rfl⟩
  go_wp2_with fail
  refine (hmb _).mono ?_
  rintro e W0 ⟨rfl, rfl⟩
  go_wp2_with fail
  have HG1 := Lib.hid (g1 w)
  refine HG1.out.mono ?_
  rintro e W1 ⟨A1, c1, rfl, hb1, bx1⟩
  obtain ⟨X1, hX1⟩ : ∃ X, X = W1.alloc (.cells #[.string (preN 4), .slice A1 (preR xa 4).length c1, .int .i64 (preF 4)] 28) := ⟨_, rfl⟩
  have hc1 : Below W1.heap.size W1 X1 := by rw [hX1]; exact (Below.refl _ _).alloc (Nat.le_refl _) _
  rw [← hX1] at bx1
  have zs1 : X1.heap.size = W1.heap.size + 1 := by rw [hX1]; simp
  have hd1 := below_step hb1 hb1.size hc1
  have BX1 := Lib.hid bx1
  have HBW := Lib.hid (hd1)
  have HX1 := Lib.hid hX1
  have HZ1 := Lib.hid zs1
  have HY1 := Lib.hid hb1.size
  clear bx1 hX1 hc1 hb1 hd1 zs1 HG1 g1
  go_wp2_with fail
  have HG2 := Lib.hid (g2 X1)
  rw [← HX1.out]
  refine HG2.out.mono ?_
  rintro e W2 ⟨A2, c2, rfl, hb2, bx2⟩
  obtain ⟨X2, hX2⟩ : ∃ X, X = W2.alloc (.cells #[.string (preN 5), .slice A2 (preR xa 5).length c2, .int .i64 (preF 5)] 28) := ⟨_, rfl⟩
  have hc2 : Below W2.heap.size W2 X2 := by rw [hX2]; exact (Below.refl _ _).alloc (Nat.le_refl _) _
  rw [← hX2] at bx2
  have zs2 : X2.heap.size = W2.heap.size + 1 := by rw [hX2]; simp
  have hd2 := below_step hb2 hb2.size hc2
  have BX2 := Lib.hid bx2
  have BX1 := Lib.hid (BX1.out.next hd2)
  have HBW := Lib.hid (below_step HBW.out HBW.out.size hd2)
  have HX2 := Lib.hid hX2
  have HZ2 := Lib.hid zs2
  have HY2 := Lib.hid hb2.size
  clear bx2 hX2 hc2 hb2 hd2 zs2 HG2 g2
  go_wp2_with fail
  have HG3 := Lib.hid (g3 X2)
  rw [← HX2.out]
  refine HG3.out.mono ?_
  rintro e W3 ⟨A3, c3, rfl, hb3, bx3⟩
  obtain ⟨X3, hX3⟩ : ∃ X, X = W3.alloc (.cells #[.string (preN 2), .slice A3 (preR xa 2).length c3, .int .i64 (preF 2)] 28) := ⟨_, rfl⟩
  have hc3 : Below W3.heap.size W3 X3 := by rw [hX3]; exact (Below.refl _ _).alloc (Nat.le_refl _) _
  rw [← hX3] at bx3
  have zs3 : X3.heap.size = W3.heap.size + 1 := by rw [hX3]; simp
  have hd3 := below_step hb3 hb3.size hc3
  have BX3 := Lib.hid bx3
  have BX1 := Lib.hid (BX1.out.next hd3)
  have BX2 := Lib.hid (BX2.out.next hd3)
  have HBW := Lib.hid (below_step HBW.out HBW.out.size hd3)
  have HX3 := Lib.hid hX3
  have HZ3 := Lib.hid zs3
  have HY3 := Lib.hid hb3.size
  clear bx3 hX3 hc3 hb3 hd3 zs3 HG3 g3
  go_wp2_with fail
  have HG4 := Lib.hid (g4 X3)
  rw [← HX3.out]
  refine HG4.out.mono ?_
  rintro e W4 ⟨A4, c4, rfl, hb4, bx4⟩
  obtain ⟨X4, hX4⟩ : ∃ X, X = W4.alloc (.cells #[.string (preN 1), .slice A4 (preR xb 1).length c4, .int .i64 (preF 1)] 28) := ⟨_, rfl⟩
  have hc4 : Below W4.heap.size W4 X4 := by rw [hX4]; exact (Below.refl _ _).alloc (Nat.le_refl _) _
  rw [← hX4] at bx4
  have zs4 : X4.heap.size = W4.heap.size + 1 := by rw [hX4]; simp
  have hd4 := below_step hb4 hb4.size hc4
  have BX4 := Lib.hid bx4
  have BX1 := Lib.hid (BX1.out.next hd4)
  have BX2 := Lib.hid (BX2.out.next hd4)
  have BX3 := Lib.hid (BX3.out.next hd4)
  have HBW := Lib.hid (below_step HBW.out HBW.out.size hd4)
  have HX4 := Lib.hid hX4
  have HZ4 := Lib.hid zs4
  have HY4 := Lib.hid hb4.size
  clear bx4 hX4 hc4 hb4 hd4 zs4 HG4 g4
  go_wp2_with fail
  have HG5 := Lib.hid (g5 X4)
  rw [← HX4.out]
  refine HG5.out.mono ?_
  rintro e W5 ⟨A5, c5, rfl, hb5, bx5⟩
  obtain ⟨X5, hX5⟩ : ∃ X, X = W5.alloc (.cells #[.string (preN 0), .slice A5 (preR xa 0).length c5, .int .i64 (preF 0)] 28) := ⟨_, rfl⟩
  have hc5 : Below W5.heap.size W5 X5 := by rw [hX5]; exact (Below.refl _ _).alloc (Nat.le_refl _) _
  rw [← hX5] at bx5
  have zs5 : X5.heap.size = W5.heap.size + 1 := by rw [hX5]; simp
  have hd5 := below_step hb5 hb5.size hc5
  have BX5 := Lib.hid bx5
  have BX1 := Lib.hid (BX1.out.next hd5)
  have BX2 := Lib.hid (BX2.out.next hd5)
  have BX3 := Lib.hid (BX3.out.next hd5)
  have BX4 := Lib.hid (BX4.out.next hd5)
  have HBW := Lib.hid (below_step HBW.out HBW.out.size hd5)
  have HX5 := Lib.hid hX5
  have HZ5 := Lib.hid zs5
  have HY5 := Lib.hid hb5.size
  clear bx5 hX5 hc5 hb5 hd5 zs5 HG5 g5
  go_wp2_with fail
  have HG6 := Lib.hid (g6 X5)
  rw [← HX5.out]
  refine HG6.out.mono ?_
  rintro e W6 ⟨A6, c6, rfl, hb6, bx6⟩
  obtain ⟨X6, hX6⟩ : ∃ X, X = W6.alloc (.cells #[.string (preN 0), .slice A6 (preR xb 0).length c6, .int .i64 (preF 0)] 28) := ⟨_, rfl⟩
  have hc6 : Below W6.heap.size W6 X6 := by rw [hX6]; exact (Below.refl _ _).alloc (Nat.le_refl _) _
  rw [← hX6] at bx6
  have zs6 : X6.heap.size = W6.heap.size + 1 := by rw [hX6]; simp
  have hd6 := below_step hb6 hb6.size hc6
  have BX6 := Lib.hid bx6
  have BX1 := Lib.hid (BX1.out.next hd6)
  have BX2 := Lib.hid (BX2.out.next hd6)
  have BX3 := Lib.hid (BX3.out.next hd6)
  have BX4 := Lib.hid (BX4.out.next hd6)
  have BX5 := Lib.hid (BX5.out.next hd6)
  have HBW := Lib.hid (below_step HBW.out HBW.out.size hd6)
  have HX6 := Lib.hid hX6
  have HZ6 := Lib.hid zs6
  have HY6 := Lib.hid hb6.size
  clear bx6 hX6 hc6 hb6 hd6 zs6 HG6 g6
  go_upto_region 8 with fail
  rw [← HX6.out]
  obtain ⟨⟨h1, h2, h3, h4, h5⟩, h6⟩ : (W1.heap.size < W2.heap.size ∧ W2.heap.size < W3.heap.size ∧ W3.heap.size < W4.heap.size ∧ W4.heap.size < W5.heap.size ∧ W5.heap.size < W6.heap.size) ∧ W6.heap.size < X6.heap.size := by
    have a1 := HZ1.out
    have a2 := HZ2.out
    have a3 := HZ3.out
    have a4 := HZ4.out
    have a5 := HZ5.out
    have a6 := HZ6.out
    have y2 := HY2.out
    have y3 := HY3.out
    have y4 := HY4.out
    have y5 := HY5.out
    have y6 := HY6.out
    omega
  rw [HZ1.out] at BX2
  rw [HZ2.out] at BX3
  rw [HZ3.out] at BX4
  rw [HZ4.out] at BX5
  rw [HZ5.out] at BX6
  clear HX1 HX2 HX3 HX4 HX5 HX6 HZ1 HZ2 HZ3 HZ4 HZ5 HZ6 HY1 HY2 HY3 HY4 HY5 HY6
  generalize W1.heap.size = b1 at *
  generalize W2.heap.size = b2 at *
  generalize W3.heap.size = b3 at *
  generalize W4.heap.size = b4 at *
  generalize W5.heap.size = b5 at *
  generalize W6.heap.size = b6 at *
  generalize X6 = X at *
  have x1 := BX1.out.1.cell 1
  have y1 := BX2.out.1.cell 1
  have u1 := BX3.out.1.cell 1
  have v1 := BX4.out.1.cell 1
  have v0 := BX4.out.1.cell 0
  simp only [preR, List.length_cons, List.length_nil, Nat.zero_add, Nat.reduceAdd] at x1 y1 u1 v1
  simp at x1 y1 u1 v1 v0
  simp only [preR, List.length_cons, List.length_nil, Nat.zero_add, Nat.reduceAdd]
  obtain ⟨gu, cap, e, hlo, hsz, hfz, k0, k1, k2, k3, hput⟩ := BX3.out.2.1.put (t := 0) (r := ⟨xa, 1, 0, 1⟩) rfl
  injection e with e _ e2
  subst e e2
  have hgu : gu < b3 := by
    obtain ⟨g', o', eA, hP, _⟩ := BX3.out.2.2.1.at_ (j := 0) (r := ⟨xa, 1, 0, 1⟩) rfl
    injection eA with eA
    injection eA with eA _
    rw [eA]
    exact hP.2
  have f0 := hfz 0
  have f1 := hfz 1
  have fu := BX3.out.1.frozen 0
  have u0 := BX3.out.1.cell 0
  simp at k0 k1 u0
  go_upto_region 10 with fail
  clear k2 k3
  have hst := stF
  go_region
  clear x1 y1 u1 v1 v0 k0 k1 u0 f0 f1 fu hfz hst
  obtain ⟨Z, hZ⟩ : ∃ Z, Z = (((X.setCell ⟨gu, 0, none⟩ (.float .f64 0)).setCell ⟨gu, 1, none⟩ (.int .i64 0)).setCell ⟨b3, 0, none⟩ (.string (preN 1))).drew := ⟨_, rfl⟩
  rw [← hZ]
  have hk : ∀ g, g ≠ gu → g ≠ b3 → Z.heap[g]? = X.heap[g]? := fun g n1 n2 => by
    rw [hZ]
    show (((X.setCell ⟨gu, 0, none⟩ (.float .f64 0)).setCell ⟨gu, 1, none⟩ (.int .i64 0)).setCell ⟨b3, 0, none⟩ (.string (preN 1))).heap[g]? = _
    rw [Below.heap_setCell _ _ _ _ n2, Below.heap_setCell _ _ _ _ n1, Below.heap_setCell _ _ _ _ n1]
  have hzs : Z.heap.size = X.heap.size := by rw [hZ]; show (((X.setCell _ _).setCell _ _).setCell _ _).heap.size = _; simp
  have o1 := hput ⟨0, 1, 0, 1⟩ 0 (.float .f64 0) (by decide) rfl
  obtain ⟨gu', cap', e, _, _, _, _, _, _, _, hput2⟩ := o1.put (t := 0) (r := ⟨0, 1, 0, 1⟩) rfl
  injection e with e _ e2
  injection e with e
  injection e with e _
  subst e e2
  have o2 := hput2 ⟨0, 0, 0, 1⟩ 1 (.int .i64 0) (by decide) rfl
  have o3 := ROwn.off o2 (p := ⟨b3, 0, none⟩) (fun k e => by have e : some gu = some k := e; injection e with e; show k ≠ b3; omega) (.string (preN 1))
  have o4 : ROwn Z (b2 + 1) (.slice (some ⟨gu, 0, none⟩) 2 c3) [⟨0, 0, 0, 1⟩, ⟨0, 0, 0, 1⟩] := by rw [hZ]; exact o3
  have ub : Blk Z b3 28 #[.string (preN 1), .slice (some ⟨gu, 0, none⟩) 2 c3, .int .i64 8] := by
    rw [hZ]
    exact (((BX3.out.1.far (p := ⟨gu, 0, none⟩) (by show b3 ≠ gu; omega) _).far (p := ⟨gu, 1, none⟩) (by show b3 ≠ gu; omega) _).set_ 0 (.string (preN 1)))
  have hwl := BX1.out.2.2.2
  obtain ⟨C1, R1⟩ := BX1.out.apart (Z := Z) fun g a b => hk g (by omega) (by omega)
  obtain ⟨C2, R2⟩ := BX2.out.apart (Z := Z) fun g a b => hk g (by omega) (by omega)
  obtain ⟨C4, R4⟩ := BX4.out.apart (Z := Z) fun g a b => hk g (by omega) (by omega)
  obtain ⟨C5, R5⟩ := BX5.out.apart (Z := Z) fun g a b => hk g (by omega) (by omega)
  obtain ⟨C6, R6⟩ := BX6.out.apart (Z := Z) fun g a b => hk g (by omega) (by omega)
  have hbz : Below w.heap.size w Z := by
    rw [hZ]
    exact (((HBW.out.setCell (p := ⟨gu, 0, none⟩) (by show w.heap.size ≤ gu; omega) _).setCell (p := ⟨gu, 1, none⟩) (by show w.heap.size ≤ gu; omega) _).setCell (p := ⟨b3, 0, none⟩) (by show w.heap.size ≤ b3; omega) _).drew
  simp only [preR, List.length_cons, List.length_nil, Nat.zero_add, Nat.reduceAdd] at C1 C2 C4 C5 C6 R1 R2 R4 R5 R6
  obtain ⟨A3, c3', e, R3⟩ := o4.slice
  injection e with e _ e2
  subst e e2
  obtain ⟨gx, ox, rfl, hgx, zgx, x0, x1, x2, x3, _, _, _, _⟩ := R1.two
  obtain ⟨gy, oy, e, _, _, y8, _⟩ := RArr.at_ R2 (j := 2) (r := ⟨0, 0, 0, 2⟩) rfl
  subst e
  obtain ⟨gy', oy', e', hgy, zgy, y0, y1, y2, y3, _, _, _, y7⟩ := R2.two
  injection e' with e'
  injection e' with e1 e2
  subst e1 e2
  have hbx : b6 < Z.heap.size := by rw [hzs]; exact h6
  have d10 := C1.cell 1
  have d20 := C2.cell 1
  have d30 := ub.cell 0
  have d31 := ub.cell 1
  have d32 := ub.cell 2
  have d40 := C4.cell 0
  have d41 := C4.cell 1
  have d42 := C4.cell 2
  have d50 := C5.cell 0
  have d51 := C5.cell 1
  have d52 := C5.cell 2
  have d60 := C6.cell 0
  have d61 := C6.cell 1
  have d62 := C6.cell 2
  simp only [List.getElem?_toArray, List.getElem?_cons_zero, List.getElem?_cons_succ, preF] at d10 d20 d30 d31 d32 d40 d41 d42 d50 d51 d52 d60 d61 d62
  simp only at x0 x1 x2 x3 y0 y1 y2 y3 y7 y8
  have HR3 := Lib.hid R3.lt
  have HR4 := Lib.hid R4.lt
  have HR5 := Lib.hid R5.lt
  have HR6 := Lib.hid R6.lt
  have HBZ := Lib.hid hbz
  clear BX1 BX2 BX3 BX4 BX5 BX6 HBW hZ hk o4 ub C1 C2 C4 C5 C6 R1 R2 R3 R4 R5 R6 hbz hput2 o1 o2 o3 hzs
  have hord : FloatKind.f64.format.order 0 0 = some Ordering.eq := by decide +kernel
  go_upto_region 11 with fail
  have z1 : b1 < Z.drew.heap.size := by show b1 < Z.heap.size; omega
  have z2 : b2 < Z.drew.heap.size := by show b2 < Z.heap.size; omega
  have z3 : b3 < Z.drew.heap.size := by show b3 < Z.heap.size; omega
  have z4 : b4 < Z.drew.heap.size := by show b4 < Z.heap.size; omega
  have z5 : b5 < Z.drew.heap.size := by show b5 < Z.heap.size; omega
  have z6 : b6 < Z.drew.heap.size := by show b6 < Z.heap.size; omega
  have zgx : gx < Z.drew.heap.size := zgx
  have zgy : gy < Z.drew.heap.size := zgy
  refine wp_region_held_drew (S := (fun w' => w'.cell? ⟨b1, 1, none⟩ = some (.slice (some ⟨gx, ox, none⟩) 2 c1) ∧ w'.cell? ⟨gx, ox, none⟩ = some (.float .f64 xa) ∧ w'.cell? ⟨gx, ox + 1, none⟩ = some (.int .i64 0) ∧ w'.cell? ⟨gx, ox + 2, none⟩ = some (.int .i64 1) ∧ w'.cell? ⟨gx, ox + 3, none⟩ = some (.int .i64 1) ∧ w'.cell? ⟨b2, 1, none⟩ = some (.slice (some ⟨gy, oy, none⟩) 3 c2) ∧ w'.cell? ⟨gy, oy, none⟩ = some (.float .f64 xa) ∧ w'.cell? ⟨gy, oy + 1, none⟩ = some (.int .i64 0) ∧ w'.cell? ⟨gy, oy + 2, none⟩ = some (.int .i64 1) ∧ w'.cell? ⟨gy, oy + 3, none⟩ = some (.int .i64 1) ∧ w'.cell? ⟨gy, oy + 4 + 3, none⟩ = some (.int .i64 2) ∧ w'.cell? ⟨gy, oy + 8, none⟩ = some (.float .f64 0) ∧ w'.cell? ⟨b3, 0, none⟩ = some (.string (preN 1)) ∧ w'.cell? ⟨b3, 1, none⟩ = some (.slice (some ⟨gu, 0, none⟩) 2 c3) ∧ w'.cell? ⟨b3, 2, none⟩ = some (.int .i64 8) ∧ w'.cell? ⟨b4, 0, none⟩ = some (.string (preN 1)) ∧ w'.cell? ⟨b4, 1, none⟩ = some (.slice A4 2 c4) ∧ w'.cell? ⟨b4, 2, none⟩ = some (.int .i64 8) ∧ w'.cell? ⟨b5, 0, none⟩ = some (.string (preN 0)) ∧ w'.cell? ⟨b5, 1, none⟩ = some (.slice A5 1 c5) ∧ w'.cell? ⟨b5, 2, none⟩ = some (.int .i64 1) ∧ w'.cell? ⟨b6, 0, none⟩ = some (.string (preN 0)) ∧ w'.cell? ⟨b6, 1, none⟩ = some (.slice A6 1 c6) ∧ w'.cell? ⟨b6, 2, none⟩ = some (.int .i64 1))) (by kernel_rfl) ?_ (fun hHeld => ?_)
  · exact ⟨d10, x0, x1, x2, x3, d20, y0, y1, y2, y3, y7, y8, d30, d31, d32, d40, d41, d42, d50, d51, d52, d60, d61, d62⟩
  (refine wpAnyH_take (i := 0) (v := ?_) rfl (by kernel_rfl) (by kernel_rfl) (by kernel_rfl) (fun _ _ _ h => h) (Or.inl ⟨by rfl, ?_⟩) (by assumption) ?_; rotate_left 1; (focus (intro w' hSw; (try dsimp only at hSw); go_simp; (try with_reducible rfl); done)); try simp only [Act.put, List.setIfInBounds_toArray, List.set_cons_zero, List.set_cons_succ, List.getElem_toArray, List.getElem_cons_zero])
  (refine wpAnyH_take (i := 1) (v := ?_) rfl (by kernel_rfl) (by kernel_rfl) (by kernel_rfl) (fun _ _ _ h => h) (Or.inl ⟨by rfl, ?_⟩) (by assumption) ?_; rotate_left 1; (focus (intro w' hSw; (try dsimp only at hSw); go_simp; (try with_reducible rfl); done)); try simp only [Act.put, List.setIfInBounds_toArray, List.set_cons_zero, List.set_cons_succ, List.getElem_toArray, List.getElem_cons_zero, List.getElem_cons_succ])
  (refine wpAnyH_take (i := 2) (v := ?_) rfl (by kernel_rfl) (by kernel_rfl) (by kernel_rfl) (fun _ _ _ h => h) (Or.inl ⟨by rfl, ?_⟩) (by assumption) ?_; rotate_left 1; (focus (intro w' hSw; (try dsimp only at hSw); go_simp; (try with_reducible rfl); done)); try simp only [Act.put, List.setIfInBounds_toArray, List.set_cons_zero, List.set_cons_succ, List.getElem_toArray, List.getElem_cons_zero, List.getElem_cons_succ])
  (refine wpAnyH_take (i := 3) (v := ?_) rfl (by kernel_rfl) (by kernel_rfl) (by kernel_rfl) (fun _ _ _ h => h) (Or.inl ⟨by rfl, ?_⟩) (by assumption) ?_; rotate_left 1; (focus (intro w' hSw; (try dsimp only at hSw); go_simp; (try with_reducible rfl); done)); try simp only [Act.put, List.setIfInBounds_toArray, List.set_cons_zero, List.set_cons_succ, List.getElem_toArray, List.getElem_cons_zero, List.getElem_cons_succ])
  (refine wpAnyH_take (i := 4) (v := ?_) rfl (by kernel_rfl) (by kernel_rfl) (by kernel_rfl) (fun _ _ _ h => h) (Or.inl ⟨by rfl, ?_⟩) (by assumption) ?_; rotate_left 1; (focus (intro w' hSw; (try dsimp only at hSw); go_simp; (try with_reducible rfl); done)); try simp only [Act.put, List.setIfInBounds_toArray, List.set_cons_zero, List.set_cons_succ, List.getElem_toArray, List.getElem_cons_zero, List.getElem_cons_succ])
  (refine wpAnyH_take (i := 5) (v := ?_) rfl (by kernel_rfl) (by kernel_rfl) (by kernel_rfl) (fun _ _ _ h => h) (Or.inl ⟨by rfl, ?_⟩) (by assumption) ?_; rotate_left 1; (focus (intro w' hSw; (try dsimp only at hSw); go_simp; (try with_reducible rfl); done)); try simp only [Act.put, List.setIfInBounds_toArray, List.set_cons_zero, List.set_cons_succ, List.getElem_toArray, List.getElem_cons_zero, List.getElem_cons_succ])
  (refine wpAnyH_take (i := 6) (v := ?_) rfl (by kernel_rfl) (by kernel_rfl) (by kernel_rfl) (fun _ _ _ h => h) (Or.inl ⟨by rfl, ?_⟩) (by assumption) ?_; rotate_left 1; (focus (intro w' hSw; (try dsimp only at hSw); go_simp; (try with_reducible rfl); done)); try simp only [Act.put, List.setIfInBounds_toArray, List.set_cons_zero, List.set_cons_succ, List.getElem_toArray, List.getElem_cons_zero, List.getElem_cons_succ])
  (refine wpAnyH_take (i := 7) (v := ?_) rfl (by kernel_rfl) (by kernel_rfl) (by kernel_rfl) (fun _ _ _ h => h) (Or.inl ⟨by rfl, ?_⟩) (by assumption) ?_; rotate_left 1; (focus (intro w' hSw; (try dsimp only at hSw); go_simp; (try with_reducible rfl); done)); try simp only [Act.put, List.setIfInBounds_toArray, List.set_cons_zero, List.set_cons_succ, List.getElem_toArray, List.getElem_cons_zero, List.getElem_cons_succ])
  (refine wpAnyH_take (i := 8) (v := ?_) rfl (by kernel_rfl) (by kernel_rfl) (by kernel_rfl) (fun _ _ _ h => h) (Or.inl ⟨by rfl, ?_⟩) (by assumption) ?_; rotate_left 1; (focus (intro w' hSw; (try dsimp only at hSw); go_simp; (try with_reducible rfl); done)); try simp only [Act.put, List.setIfInBounds_toArray, List.set_cons_zero, List.set_cons_succ, List.getElem_toArray, List.getElem_cons_zero, List.getElem_cons_succ])
  (refine wpAnyH_take (i := 9) (v := ?_) rfl (by kernel_rfl) (by kernel_rfl) (by kernel_rfl) (fun _ _ _ h => h) (Or.inl ⟨by rfl, ?_⟩) (by assumption) ?_; rotate_left 1; (focus (intro w' hSw; (try dsimp only at hSw); go_simp; (try with_reducible rfl); done)); try simp only [Act.put, List.setIfInBounds_toArray, List.set_cons_zero, List.set_cons_succ, List.getElem_toArray, List.getElem_cons_zero, List.getElem_cons_succ])
  (refine wpAnyH_take (i := 10) (v := ?_) rfl (by kernel_rfl) (by kernel_rfl) (by kernel_rfl) (fun _ _ _ h => h) (Or.inl ⟨by rfl, ?_⟩) (by assumption) ?_; rotate_left 1; (focus (intro w' hSw; (try dsimp only at hSw); go_simp; (try with_reducible rfl); done)); try simp only [Act.put, List.setIfInBounds_toArray, List.set_cons_zero, List.set_cons_succ, List.getElem_toArray, List.getElem_cons_zero, List.getElem_cons_succ])
  (refine wpAnyH_take (i := 11) (v := ?_) rfl (by kernel_rfl) (by kernel_rfl) (by kernel_rfl) (fun _ _ _ h => h) (Or.inl ⟨by rfl, ?_⟩) (by assumption) ?_; rotate_left 1; (focus (intro w' hSw; (try dsimp only at hSw); go_simp; (try with_reducible rfl); done)); try simp only [Act.put, List.setIfInBounds_toArray, List.set_cons_zero, List.set_cons_succ, List.getElem_toArray, List.getElem_cons_zero, List.getElem_cons_succ])
  (refine wpAnyH_take (i := 12) (v := ?_) rfl (by kernel_rfl) (by kernel_rfl) (by kernel_rfl) (fun _ _ _ h => h) (Or.inl ⟨by rfl, ?_⟩) (by assumption) ?_; rotate_left 1; (focus (intro w' hSw; (try dsimp only at hSw); go_simp; (try with_reducible rfl); done)); try simp only [Act.put, List.setIfInBounds_toArray, List.set_cons_zero, List.set_cons_succ, List.getElem_toArray, List.getElem_cons_zero, List.getElem_cons_succ])
  (refine wpAnyH_take (i := 13) (v := ?_) rfl (by kernel_rfl) (by kernel_rfl) (by kernel_rfl) (fun _ _ _ h => h) (Or.inl ⟨by rfl, ?_⟩) (by assumption) ?_; rotate_left 1; (focus (intro w' hSw; (try dsimp only at hSw); go_simp; (try with_reducible rfl); done)); try simp only [Act.put, List.setIfInBounds_toArray, List.set_cons_zero, List.set_cons_succ, List.getElem_toArray, List.getElem_cons_zero, List.getElem_cons_succ])
  (refine wpAnyH_take (i := 14) (v := ?_) rfl (by kernel_rfl) (by kernel_rfl) (by kernel_rfl) (fun _ _ _ h => h) (Or.inl ⟨by rfl, ?_⟩) (by assumption) ?_; rotate_left 1; (focus (intro w' hSw; (try dsimp only at hSw); go_simp; (try with_reducible rfl); done)); try simp only [Act.put, List.setIfInBounds_toArray, List.set_cons_zero, List.set_cons_succ, List.getElem_toArray, List.getElem_cons_zero, List.getElem_cons_succ])
  (refine wpAnyH_take (i := 15) (v := ?_) rfl (by kernel_rfl) (by kernel_rfl) (by kernel_rfl) (fun _ _ _ h => h) (Or.inl ⟨by rfl, ?_⟩) (by assumption) ?_; rotate_left 1; (focus (intro w' hSw; (try dsimp only at hSw); go_simp; (try with_reducible rfl); done)); try simp only [Act.put, List.setIfInBounds_toArray, List.set_cons_zero, List.set_cons_succ, List.getElem_toArray, List.getElem_cons_zero, List.getElem_cons_succ])
  (refine wpAnyH_take (i := 16) (v := ?_) rfl (by kernel_rfl) (by kernel_rfl) (by kernel_rfl) (fun _ _ _ h => h) (Or.inl ⟨by rfl, ?_⟩) (by assumption) ?_; rotate_left 1; (focus (intro w' hSw; (try dsimp only at hSw); go_simp; (try with_reducible rfl); done)); try simp only [Act.put, List.setIfInBounds_toArray, List.set_cons_zero, List.set_cons_succ, List.getElem_toArray, List.getElem_cons_zero, List.getElem_cons_succ])
  (refine wpAnyH_take (i := 17) (v := ?_) rfl (by kernel_rfl) (by kernel_rfl) (by kernel_rfl) (fun _ _ _ h => h) (Or.inl ⟨by rfl, ?_⟩) (by assumption) ?_; rotate_left 1; (focus (intro w' hSw; (try dsimp only at hSw); go_simp; (try with_reducible rfl); done)); try simp only [Act.put, List.setIfInBounds_toArray, List.set_cons_zero, List.set_cons_succ, List.getElem_toArray, List.getElem_cons_zero, List.getElem_cons_succ])
  (refine wpAnyH_take (i := 18) (v := ?_) rfl (by kernel_rfl) (by kernel_rfl) (by kernel_rfl) (fun _ _ _ h => h) (Or.inl ⟨by rfl, ?_⟩) (by assumption) ?_; rotate_left 1; (focus (intro w' hSw; (try dsimp only at hSw); go_simp; (try with_reducible rfl); done)); try simp only [Act.put, List.setIfInBounds_toArray, List.set_cons_zero, List.set_cons_succ, List.getElem_toArray, List.getElem_cons_zero, List.getElem_cons_succ])
  (refine wpAnyH_take (i := 19) (v := ?_) rfl (by kernel_rfl) (by kernel_rfl) (by kernel_rfl) (fun _ _ _ h => h) (Or.inl ⟨by rfl, ?_⟩) (by assumption) ?_; rotate_left 1; (focus (intro w' hSw; (try dsimp only at hSw); go_simp; (try with_reducible rfl); done)); try simp only [Act.put, List.setIfInBounds_toArray, List.set_cons_zero, List.set_cons_succ, List.getElem_toArray, List.getElem_cons_zero, List.getElem_cons_succ])
  (refine wpAnyH_take (i := 20) (v := ?_) rfl (by kernel_rfl) (by kernel_rfl) (by kernel_rfl) (fun _ _ _ h => h) (Or.inl ⟨by rfl, ?_⟩) (by assumption) ?_; rotate_left 1; (focus (intro w' hSw; (try dsimp only at hSw); go_simp; (try with_reducible rfl); done)); try simp only [Act.put, List.setIfInBounds_toArray, List.set_cons_zero, List.set_cons_succ, List.getElem_toArray, List.getElem_cons_zero, List.getElem_cons_succ])
  (refine wpAnyH_take (i := 21) (v := ?_) rfl (by kernel_rfl) (by kernel_rfl) (by kernel_rfl) (fun _ _ _ h => h) (Or.inl ⟨by rfl, ?_⟩) (by assumption) ?_; rotate_left 1; (focus (intro w' hSw; (try dsimp only at hSw); go_simp; (try with_reducible rfl); done)); try simp only [Act.put, List.setIfInBounds_toArray, List.set_cons_zero, List.set_cons_succ, List.getElem_toArray, List.getElem_cons_zero, List.getElem_cons_succ])
  (refine wpAnyH_take (i := 22) (v := ?_) rfl (by kernel_rfl) (by kernel_rfl) (by kernel_rfl) (fun _ _ _ h => h) (Or.inl ⟨by rfl, ?_⟩) (by assumption) ?_; rotate_left 1; (focus (intro w' hSw; (try dsimp only at hSw); go_simp; (try with_reducible rfl); done)); try simp only [Act.put, List.setIfInBounds_toArray, List.set_cons_zero, List.set_cons_succ, List.getElem_toArray, List.getElem_cons_zero, List.getElem_cons_succ])
  (refine wpAnyH_take (i := 23) (v := ?_) rfl (by kernel_rfl) (by kernel_rfl) (by kernel_rfl) (fun _ _ _ h => h) (Or.inl ⟨by rfl, ?_⟩) (by assumption) ?_; rotate_left 1; (focus (intro w' hSw; (try dsimp only at hSw); go_simp; (try with_reducible rfl); done)); try simp only [Act.put, List.setIfInBounds_toArray, List.set_cons_zero, List.set_cons_succ, List.getElem_toArray, List.getElem_cons_zero, List.getElem_cons_succ])
  (refine wpAnyH_take (i := 24) (v := ?_) rfl (by kernel_rfl) (by kernel_rfl) (by kernel_rfl) (fun _ _ _ h => h) (Or.inl ⟨by rfl, ?_⟩) (by assumption) ?_; rotate_left 1; (focus (intro w' hSw; (try dsimp only at hSw); go_simp; (try with_reducible rfl); done)); try simp only [Act.put, List.setIfInBounds_toArray, List.set_cons_zero, List.set_cons_succ, List.getElem_toArray, List.getElem_cons_zero, List.getElem_cons_succ])
  (refine wpAnyH_take (i := 25) (v := ?_) rfl (by kernel_rfl) (by kernel_rfl) (by kernel_rfl) (fun _ _ _ h => h) (Or.inl ⟨by rfl, ?_⟩) (by assumption) ?_; rotate_left 1; (focus (intro w' hSw; (try dsimp only at hSw); go_simp; (try with_reducible rfl); done)); try simp only [Act.put, List.setIfInBounds_toArray, List.set_cons_zero, List.set_cons_succ, List.getElem_toArray, List.getElem_cons_zero, List.getElem_cons_succ])
  (refine wpAnyH_take (i := 26) (v := ?_) rfl (by kernel_rfl) (by kernel_rfl) (by kernel_rfl) (fun _ _ _ h => h) (Or.inl ⟨by rfl, ?_⟩) (by assumption) ?_; rotate_left 1; (focus (intro w' hSw; (try dsimp only at hSw); go_simp; (try with_reducible rfl); done)); try simp only [Act.put, List.setIfInBounds_toArray, List.set_cons_zero, List.set_cons_succ, List.getElem_toArray, List.getElem_cons_zero, List.getElem_cons_succ])
  (refine wpAnyH_take (i := 27) (v := ?_) rfl (by kernel_rfl) (by kernel_rfl) (by kernel_rfl) (fun _ _ _ h => h) (Or.inl ⟨by rfl, ?_⟩) (by assumption) ?_; rotate_left 1; (focus (intro w' hSw; (try dsimp only at hSw); go_simp; (try with_reducible rfl); done)); try simp only [Act.put, List.setIfInBounds_toArray, List.set_cons_zero, List.set_cons_succ, List.getElem_toArray, List.getElem_cons_zero, List.getElem_cons_succ])
  refine wpAnyH_ready (rs := [28]) (by kernel_rfl) (by simp) ?_
  refine AllReadyH.cons rfl (fun K hK => ?_) AllReadyH.nil
  go_simp
  go_at_call 11
  refine (same_yes (preN 1) (some ⟨gu, 0, none⟩) A4 c3 c4 [⟨0, 0, 0, 1⟩, ⟨0, 0, 0, 1⟩] 8 _ (show RArr Z.drew (Lt Z.drew.heap.size) _ _ _ from HR3.out) (show RArr Z.drew (Lt Z.drew.heap.size) _ _ _ from HR4.out)).mono ?_
  rintro e N1 ⟨rfl, bN1⟩
  go_wp2_with fail
  have z1 : b1 < Z.drew.heap.size := z1
  have z2 : b2 < Z.drew.heap.size := z2
  have z3 : b3 < Z.drew.heap.size := z3
  have z4 : b4 < Z.drew.heap.size := z4
  have z5 : b5 < Z.drew.heap.size := z5
  have z6 : b6 < Z.drew.heap.size := z6
  have zgx : gx < Z.drew.heap.size := zgx
  have zgy : gy < Z.drew.heap.size := zgy
  refine hK.out _ _ ⟨(bN1.cell (p := ⟨_, 1, none⟩) z1).trans hHeld.1, (bN1.cell (p := ⟨_, ox, none⟩) zgx).trans hHeld.2.1, (bN1.cell (p := ⟨_, ox + 1, none⟩) zgx).trans hHeld.2.2.1, (bN1.cell (p := ⟨_, ox + 2, none⟩) zgx).trans hHeld.2.2.2.1, (bN1.cell (p := ⟨_, ox + 3, none⟩) zgx).trans hHeld.2.2.2.2.1, (bN1.cell (p := ⟨_, 1, none⟩) z2).trans hHeld.2.2.2.2.2.1, (bN1.cell (p := ⟨_, oy, none⟩) zgy).trans hHeld.2.2.2.2.2.2.1, (bN1.cell (p := ⟨_, oy + 1, none⟩) zgy).trans hHeld.2.2.2.2.2.2.2.1, (bN1.cell (p := ⟨_, oy + 2, none⟩) zgy).trans hHeld.2.2.2.2.2.2.2.2.1, (bN1.cell (p := ⟨_, oy + 3, none⟩) zgy).trans hHeld.2.2.2.2.2.2.2.2.2.1, (bN1.cell (p := ⟨_, oy + 4 + 3, none⟩) zgy).trans hHeld.2.2.2.2.2.2.2.2.2.2.1, (bN1.cell (p := ⟨_, oy + 8, none⟩) zgy).trans hHeld.2.2.2.2.2.2.2.2.2.2.2.1, (bN1.cell (p := ⟨_, 0, none⟩) z3).trans hHeld.2.2.2.2.2.2.2.2.2.2.2.2.1, (bN1.cell (p := ⟨_, 1, none⟩) z3).trans hHeld.2.2.2.2.2.2.2.2.2.2.2.2.2.1, (bN1.cell (p := ⟨_, 2, none⟩) z3).trans hHeld.2.2.2.2.2.2.2.2.2.2.2.2.2.2.1, (bN1.cell (p := ⟨_, 0, none⟩) z4).trans hHeld.2.2.2.2.2.2.2.2.2.2.2.2.2.2.2.1, (bN1.cell (p := ⟨_, 1, none⟩) z4).trans hHeld.2.2.2.2.2.2.2.2.2.2.2.2.2.2.2.2.1, (bN1.cell (p := ⟨_, 2, none⟩) z4).trans hHeld.2.2.2.2.2.2.2.2.2.2.2.2.2.2.2.2.2.1, (bN1.cell (p := ⟨_, 0, none⟩) z5).trans hHeld.2.2.2.2.2.2.2.2.2.2.2.2.2.2.2.2.2.2.1, (bN1.cell (p := ⟨_, 1, none⟩) z5).trans hHeld.2.2.2.2.2.2.2.2.2.2.2.2.2.2.2.2.2.2.2.1, (bN1.cell (p := ⟨_, 2, none⟩) z5).trans hHeld.2.2.2.2.2.2.2.2.2.2.2.2.2.2.2.2.2.2.2.2.1, (bN1.cell (p := ⟨_, 0, none⟩) z6).trans hHeld.2.2.2.2.2.2.2.2.2.2.2.2.2.2.2.2.2.2.2.2.2.1, (bN1.cell (p := ⟨_, 1, none⟩) z6).trans hHeld.2.2.2.2.2.2.2.2.2.2.2.2.2.2.2.2.2.2.2.2.2.2.1, (bN1.cell (p := ⟨_, 2, none⟩) z6).trans hHeld.2.2.2.2.2.2.2.2.2.2.2.2.2.2.2.2.2.2.2.2.2.2.2⟩ (fun hHeld2 => ?_)
  clear hK K hHeld
  have hHeld := hHeld2
  clear hHeld2
  try simp only [Act.put, List.setIfInBounds_toArray, List.set_cons_zero, List.set_cons_succ, List.getElem_toArray, List.getElem_cons_zero, List.getElem_cons_succ]
  have z1 : b1 < N1.heap.size := Nat.lt_of_lt_of_le z1 bN1.size
  have z2 : b2 < N1.heap.size := Nat.lt_of_lt_of_le z2 bN1.size
  have z3 : b3 < N1.heap.size := Nat.lt_of_lt_of_le z3 bN1.size
  have z4 : b4 < N1.heap.size := Nat.lt_of_lt_of_le z4 bN1.size
  have z5 : b5 < N1.heap.size := Nat.lt_of_lt_of_le z5 bN1.size
  have z6 : b6 < N1.heap.size := Nat.lt_of_lt_of_le z6 bN1.size
  have zgx : gx < N1.heap.size := Nat.lt_of_lt_of_le zgx bN1.size
  have zgy : gy < N1.heap.size := Nat.lt_of_lt_of_le zgy bN1.size
  have r5 := (show RArr Z.drew (Lt Z.drew.heap.size) _ _ _ from HR5.out).next bN1
  have r6 := (show RArr Z.drew (Lt Z.drew.heap.size) _ _ _ from HR6.out).next bN1
  (refine wpAnyH_take (i := 29) (v := ?_) rfl (by kernel_rfl) (by kernel_rfl) (by kernel_rfl) (fun _ _ _ h => h) (Or.inl ⟨by rfl, ?_⟩) (by assumption) ?_; rotate_left 1; (focus (intro w' hSw; (try dsimp only at hSw); go_simp; (try with_reducible rfl); done)); try simp only [Act.put, List.setIfInBounds_toArray, List.set_cons_zero, List.set_cons_succ, List.getElem_toArray, List.getElem_cons_zero, List.getElem_cons_succ])
  (refine wpAnyH_take (i := 30) (v := ?_) rfl (by kernel_rfl) (by kernel_rfl) (by kernel_rfl) (fun _ _ _ h => h) (Or.inl ⟨by rfl, ?_⟩) (by assumption) ?_; rotate_left 1; (focus (intro w' hSw; (try dsimp only at hSw); go_simp; (try with_reducible rfl); done)); try simp only [Act.put, List.setIfInBounds_toArray, List.set_cons_zero, List.set_cons_succ, List.getElem_toArray, List.getElem_cons_zero, List.getElem_cons_succ])
  (refine wpAnyH_take (i := 31) (v := ?_) rfl (by kernel_rfl) (by kernel_rfl) (by kernel_rfl) (fun _ _ _ h => h) (Or.inl ⟨by rfl, ?_⟩) (by assumption) ?_; rotate_left 1; (focus (intro w' hSw; (try dsimp only at hSw); go_simp; (try with_reducible rfl); done)); try simp only [Act.put, List.setIfInBounds_toArray, List.set_cons_zero, List.set_cons_succ, List.getElem_toArray, List.getElem_cons_zero, List.getElem_cons_succ])
  (refine wpAnyH_take (i := 32) (v := ?_) rfl (by kernel_rfl) (by kernel_rfl) (by kernel_rfl) (fun _ _ _ h => h) (Or.inl ⟨by rfl, ?_⟩) (by assumption) ?_; rotate_left 1; (focus (intro w' hSw; (try dsimp only at hSw); go_simp; (try with_reducible rfl); done)); try simp only [Act.put, List.setIfInBounds_toArray, List.set_cons_zero, List.set_cons_succ, List.getElem_toArray, List.getElem_cons_zero, List.getElem_cons_succ])
  refine wpAnyH_ready (rs := [33]) (by kernel_rfl) (by simp) ?_
  refine AllReadyH.cons rfl (fun K hK => ?_) AllReadyH.nil
  go_simp
  go_at_call 11
  refine (same_yes (preN 0) A5 A6 c5 c6 [⟨0, 0, 0, 0⟩] 1 _ r5 r6).mono ?_
  rintro e N2 ⟨rfl, bN2⟩
  go_wp2_with fail
  have z1 : b1 < N1.heap.size := z1
  have z2 : b2 < N1.heap.size := z2
  have z3 : b3 < N1.heap.size := z3
  have z4 : b4 < N1.heap.size := z4
  have z5 : b5 < N1.heap.size := z5
  have z6 : b6 < N1.heap.size := z6
  have zgx : gx < N1.heap.size := zgx
  have zgy : gy < N1.heap.size := zgy
  refine hK.out _ _ ⟨(bN2.cell (p := ⟨_, 1, none⟩) z1).trans hHeld.1, (bN2.cell (p := ⟨_, ox, none⟩) zgx).trans hHeld.2.1, (bN2.cell (p := ⟨_, ox + 1, none⟩) zgx).trans hHeld.2.2.1, (bN2.cell (p := ⟨_, ox + 2, none⟩) zgx).trans hHeld.2.2.2.1, (bN2.cell (p := ⟨_, ox + 3, none⟩) zgx).trans hHeld.2.2.2.2.1, (bN2.cell (p := ⟨_, 1, none⟩) z2).trans hHeld.2.2.2.2.2.1, (bN2.cell (p := ⟨_, oy, none⟩) zgy).trans hHeld.2.2.2.2.2.2.1, (bN2.cell (p := ⟨_, oy + 1, none⟩) zgy).trans hHeld.2.2.2.2.2.2.2.1, (bN2.cell (p := ⟨_, oy + 2, none⟩) zgy).trans hHeld.2.2.2.2.2.2.2.2.1, (bN2.cell (p := ⟨_, oy + 3, none⟩) zgy).trans hHeld.2.2.2.2.2.2.2.2.2.1, (bN2.cell (p := ⟨_, oy + 4 + 3, none⟩) zgy).trans hHeld.2.2.2.2.2.2.2.2.2.2.1, (bN2.cell (p := ⟨_, oy + 8, none⟩) zgy).trans hHeld.2.2.2.2.2.2.2.2.2.2.2.1, (bN2.cell (p := ⟨_, 0, none⟩) z3).trans hHeld.2.2.2.2.2.2.2.2.2.2.2.2.1, (bN2.cell (p := ⟨_, 1, none⟩) z3).trans hHeld.2.2.2.2.2.2.2.2.2.2.2.2.2.1, (bN2.cell (p := ⟨_, 2, none⟩) z3).trans hHeld.2.2.2.2.2.2.2.2.2.2.2.2.2.2.1, (bN2.cell (p := ⟨_, 0, none⟩) z4).trans hHeld.2.2.2.2.2.2.2.2.2.2.2.2.2.2.2.1, (bN2.cell (p := ⟨_, 1, none⟩) z4).trans hHeld.2.2.2.2.2.2.2.2.2.2.2.2.2.2.2.2.1, (bN2.cell (p := ⟨_, 2, none⟩) z4).trans hHeld.2.2.2.2.2.2.2.2.2.2.2.2.2.2.2.2.2.1, (bN2.cell (p := ⟨_, 0, none⟩) z5).trans hHeld.2.2.2.2.2.2.2.2.2.2.2.2.2.2.2.2.2.2.1, (bN2.cell (p := ⟨_, 1, none⟩) z5).trans hHeld.2.2.2.2.2.2.2.2.2.2.2.2.2.2.2.2.2.2.2.1, (bN2.cell (p := ⟨_, 2, none⟩) z5).trans hHeld.2.2.2.2.2.2.2.2.2.2.2.2.2.2.2.2.2.2.2.2.1, (bN2.cell (p := ⟨_, 0, none⟩) z6).trans hHeld.2.2.2.2.2.2.2.2.2.2.2.2.2.2.2.2.2.2.2.2.2.1, (bN2.cell (p := ⟨_, 1, none⟩) z6).trans hHeld.2.2.2.2.2.2.2.2.2.2.2.2.2.2.2.2.2.2.2.2.2.2.1, (bN2.cell (p := ⟨_, 2, none⟩) z6).trans hHeld.2.2.2.2.2.2.2.2.2.2.2.2.2.2.2.2.2.2.2.2.2.2.2⟩ (fun hHeld2 => ?_)
  clear hK K hHeld
  have hHeld := hHeld2
  clear hHeld2
  try simp only [Act.put, List.setIfInBounds_toArray, List.set_cons_zero, List.set_cons_succ, List.getElem_toArray, List.getElem_cons_zero, List.getElem_cons_succ]
  have z1 : b1 < N2.heap.size := Nat.lt_of_lt_of_le z1 bN2.size
  have z2 : b2 < N2.heap.size := Nat.lt_of_lt_of_le z2 bN2.size
  have z3 : b3 < N2.heap.size := Nat.lt_of_lt_of_le z3 bN2.size
  have z4 : b4 < N2.heap.size := Nat.lt_of_lt_of_le z4 bN2.size
  have z5 : b5 < N2.heap.size := Nat.lt_of_lt_of_le z5 bN2.size
  have z6 : b6 < N2.heap.size := Nat.lt_of_lt_of_le z6 bN2.size
  have zgx : gx < N2.heap.size := Nat.lt_of_lt_of_le zgx bN2.size
  have zgy : gy < N2.heap.size := Nat.lt_of_lt_of_le zgy bN2.size
  (refine wpAnyH_take (i := 34) (v := ?_) rfl (by kernel_rfl) (by kernel_rfl) (by kernel_rfl) (fun _ _ _ h => h) (Or.inl ⟨by rfl, ?_⟩) (by assumption) ?_; rotate_left 1; (focus (intro w' hSw; (try dsimp only at hSw); go_simp; (try with_reducible rfl); done)); try simp only [Act.put, List.setIfInBounds_toArray, List.set_cons_zero, List.set_cons_succ, List.getElem_toArray, List.getElem_cons_zero, List.getElem_cons_succ])
  (refine wpAnyH_take (i := 35) (v := ?_) rfl (by kernel_rfl) (by kernel_rfl) (by kernel_rfl) (fun _ _ _ h => h) (Or.inl ⟨by rfl, ?_⟩) (by assumption) ?_; rotate_left 1; (focus (intro w' hSw; (try dsimp only at hSw); go_simp; (try with_reducible rfl); done)); try simp only [Act.put, List.setIfInBounds_toArray, List.set_cons_zero, List.set_cons_succ, List.getElem_toArray, List.getElem_cons_zero, List.getElem_cons_succ])
  refine wpAnyH_ready (rs := [36]) (by kernel_rfl) (by simp) ?_
  refine AllReadyH.cons rfl (fun K hK => ?_) AllReadyH.nil
  go_simp
  go_at_call 12
  refine (awake14_any _).mono ?_
  rintro e N3 ⟨rfl, bN3⟩
  go_wp2_with fail
  have z1 : b1 < N2.heap.size := z1
  have z2 : b2 < N2.heap.size := z2
  have z3 : b3 < N2.heap.size := z3
  have z4 : b4 < N2.heap.size := z4
  have z5 : b5 < N2.heap.size := z5
  have z6 : b6 < N2.heap.size := z6
  have zgx : gx < N2.heap.size := zgx
  have zgy : gy < N2.heap.size := zgy
  refine hK.out _ _ ⟨(bN3.cell (p := ⟨_, 1, none⟩) z1).trans hHeld.1, (bN3.cell (p := ⟨_, ox, none⟩) zgx).trans hHeld.2.1, (bN3.cell (p := ⟨_, ox + 1, none⟩) zgx).trans hHeld.2.2.1, (bN3.cell (p := ⟨_, ox + 2, none⟩) zgx).trans hHeld.2.2.2.1, (bN3.cell (p := ⟨_, ox + 3, none⟩) zgx).trans hHeld.2.2.2.2.1, (bN3.cell (p := ⟨_, 1, none⟩) z2).trans hHeld.2.2.2.2.2.1, (bN3.cell (p := ⟨_, oy, none⟩) zgy).trans hHeld.2.2.2.2.2.2.1, (bN3.cell (p := ⟨_, oy + 1, none⟩) zgy).trans hHeld.2.2.2.2.2.2.2.1, (bN3.cell (p := ⟨_, oy + 2, none⟩) zgy).trans hHeld.2.2.2.2.2.2.2.2.1, (bN3.cell (p := ⟨_, oy + 3, none⟩) zgy).trans hHeld.2.2.2.2.2.2.2.2.2.1, (bN3.cell (p := ⟨_, oy + 4 + 3, none⟩) zgy).trans hHeld.2.2.2.2.2.2.2.2.2.2.1, (bN3.cell (p := ⟨_, oy + 8, none⟩) zgy).trans hHeld.2.2.2.2.2.2.2.2.2.2.2.1, (bN3.cell (p := ⟨_, 0, none⟩) z3).trans hHeld.2.2.2.2.2.2.2.2.2.2.2.2.1, (bN3.cell (p := ⟨_, 1, none⟩) z3).trans hHeld.2.2.2.2.2.2.2.2.2.2.2.2.2.1, (bN3.cell (p := ⟨_, 2, none⟩) z3).trans hHeld.2.2.2.2.2.2.2.2.2.2.2.2.2.2.1, (bN3.cell (p := ⟨_, 0, none⟩) z4).trans hHeld.2.2.2.2.2.2.2.2.2.2.2.2.2.2.2.1, (bN3.cell (p := ⟨_, 1, none⟩) z4).trans hHeld.2.2.2.2.2.2.2.2.2.2.2.2.2.2.2.2.1, (bN3.cell (p := ⟨_, 2, none⟩) z4).trans hHeld.2.2.2.2.2.2.2.2.2.2.2.2.2.2.2.2.2.1, (bN3.cell (p := ⟨_, 0, none⟩) z5).trans hHeld.2.2.2.2.2.2.2.2.2.2.2.2.2.2.2.2.2.2.1, (bN3.cell (p := ⟨_, 1, none⟩) z5).trans hHeld.2.2.2.2.2.2.2.2.2.2.2.2.2.2.2.2.2.2.2.1, (bN3.cell (p := ⟨_, 2, none⟩) z5).trans hHeld.2.2.2.2.2.2.2.2.2.2.2.2.2.2.2.2.2.2.2.2.1, (bN3.cell (p := ⟨_, 0, none⟩) z6).trans hHeld.2.2.2.2.2.2.2.2.2.2.2.2.2.2.2.2.2.2.2.2.2.1, (bN3.cell (p := ⟨_, 1, none⟩) z6).trans hHeld.2.2.2.2.2.2.2.2.2.2.2.2.2.2.2.2.2.2.2.2.2.2.1, (bN3.cell (p := ⟨_, 2, none⟩) z6).trans hHeld.2.2.2.2.2.2.2.2.2.2.2.2.2.2.2.2.2.2.2.2.2.2.2⟩ (fun hHeld2 => ?_)
  clear hK K hHeld
  have hHeld := hHeld2
  clear hHeld2
  try simp only [Act.put, List.setIfInBounds_toArray, List.set_cons_zero, List.set_cons_succ, List.getElem_toArray, List.getElem_cons_zero, List.getElem_cons_succ]
  have z1 : b1 < N3.heap.size := Nat.lt_of_lt_of_le z1 bN3.size
  have z2 : b2 < N3.heap.size := Nat.lt_of_lt_of_le z2 bN3.size
  have z3 : b3 < N3.heap.size := Nat.lt_of_lt_of_le z3 bN3.size
  have z4 : b4 < N3.heap.size := Nat.lt_of_lt_of_le z4 bN3.size
  have z5 : b5 < N3.heap.size := Nat.lt_of_lt_of_le z5 bN3.size
  have z6 : b6 < N3.heap.size := Nat.lt_of_lt_of_le z6 bN3.size
  have zgx : gx < N3.heap.size := Nat.lt_of_lt_of_le zgx bN3.size
  have zgy : gy < N3.heap.size := Nat.lt_of_lt_of_le zgy bN3.size
  (refine wpAnyH_take (i := 37) (v := ?_) rfl (by kernel_rfl) (by kernel_rfl) (by kernel_rfl) (fun _ _ _ h => h) (Or.inl ⟨by rfl, ?_⟩) (by assumption) ?_; rotate_left 1; (focus (intro w' hSw; (try dsimp only at hSw); go_simp; (try with_reducible rfl); done)); try simp only [Act.put, List.setIfInBounds_toArray, List.set_cons_zero, List.set_cons_succ, List.getElem_toArray, List.getElem_cons_zero, List.getElem_cons_succ])
  (refine wpAnyH_take (i := 38) (v := ?_) rfl (by kernel_rfl) (by kernel_rfl) (by kernel_rfl) (fun _ _ _ h => h) (Or.inl ⟨by rfl, ?_⟩) (by assumption) ?_; rotate_left 1; (focus (intro w' hSw; (try dsimp only at hSw); go_simp; (try with_reducible rfl); done)); try simp only [Act.put, List.setIfInBounds_toArray, List.set_cons_zero, List.set_cons_succ, List.getElem_toArray, List.getElem_cons_zero, List.getElem_cons_succ])
  refine wpAnyH_done (by kernel_rfl) ?_ _
  clear hHeld
  have hz1 : Below Z.heap.size Z N1 := (Below.refl Z.heap.size Z).drew.trans (show Below Z.heap.size Z.drew N1 from bN1)
  have hz2 := below_step hz1 hz1.size bN2
  have hz3 := below_step hz2 hz2.size bN3
  go_wp2
  go_ret
  exact ⟨rfl, below_step HBZ.out HBZ.out.size hz3⟩
end Go.Proofs.Ytnoeefbipdpeaaa
