/-
  The developers' Get.
-/
import Derived.Test.YtnoeefbipdpeaaaPGet
import Derived.Test.YtnoeefbipdpeaaaMapS
import Derived.Test.YtnoeefbipdpeaaaShelf
namespace Go.Proofs.Ytnoeefbipdpeaaa
open Go.RowKit
set_option maxRecDepth 100000
set_option linter.unusedVariables false

/-- The table of makers. -/
def bldL : List (ByteArray × Value) := [(preN 0, .func (.func 23) #[] #[]), (preN 1, .func (.func 24) #[] #[]), (preN 2, .func (.func 25) #[] #[]), (preN 3, .func (.func 26) #[] #[]), (preN 4, .func (.func 27) #[] #[]), (preN 5, .func (.func 28) #[] #[])]
set_option maxHeartbeats 2000000 in
theorem builders_any (w : World) : Calls Try.prog 15 #[] w fun e w' => e = .returned (.map (some w.heap.size)) ∧ w' = w.alloc (.map (mapE bldL) 6) := by
  have hmm := @run_makeMap Try.prog
  have h0 : (Instr.mapUpdate 46 (.map (some w.heap.size)) (.string (preN 0)) (.func (.func 23) #[] #[])).run Try.prog (w.alloc (.map #[] 0)) = .ok () (w.alloc (.map (mapE [(preN 0, .func (.func 23) #[] #[])]) 1)) := map_put (P := Try.prog) 46 9 44 Try.underlying46 Try.underlying9 w _ rfl [] _ _ (by decide)
  have h1 : (Instr.mapUpdate 46 (.map (some w.heap.size)) (.string (preN 1)) (.func (.func 24) #[] #[])).run Try.prog (w.alloc (.map (mapE [(preN 0, .func (.func 23) #[] #[])]) 1)) = .ok () (w.alloc (.map (mapE [(preN 0, .func (.func 23) #[] #[]), (preN 1, .func (.func 24) #[] #[])]) 2)) := map_put (P := Try.prog) 46 9 44 Try.underlying46 Try.underlying9 w _ rfl [(preN 0, .func (.func 23) #[] #[])] _ _ (by decide)
  have h2 : (Instr.mapUpdate 46 (.map (some w.heap.size)) (.string (preN 2)) (.func (.func 25) #[] #[])).run Try.prog (w.alloc (.map (mapE [(preN 0, .func (.func 23) #[] #[]), (preN 1, .func (.func 24) #[] #[])]) 2)) = .ok () (w.alloc (.map (mapE [(preN 0, .func (.func 23) #[] #[]), (preN 1, .func (.func 24) #[] #[]), (preN 2, .func (.func 25) #[] #[])]) 3)) := map_put (P := Try.prog) 46 9 44 Try.underlying46 Try.underlying9 w _ rfl [(preN 0, .func (.func 23) #[] #[]), (preN 1, .func (.func 24) #[] #[])] _ _ (by decide)
  have h3 : (Instr.mapUpdate 46 (.map (some w.heap.size)) (.string (preN 3)) (.func (.func 26) #[] #[])).run Try.prog (w.alloc (.map (mapE [(preN 0, .func (.func 23) #[] #[]), (preN 1, .func (.func 24) #[] #[]), (preN 2, .func (.func 25) #[] #[])]) 3)) = .ok () (w.alloc (.map (mapE [(preN 0, .func (.func 23) #[] #[]), (preN 1, .func (.func 24) #[] #[]), (preN 2, .func (.func 25) #[] #[]), (preN 3, .func (.func 26) #[] #[])]) 4)) := map_put (P := Try.prog) 46 9 44 Try.underlying46 Try.underlying9 w _ rfl [(preN 0, .func (.func 23) #[] #[]), (preN 1, .func (.func 24) #[] #[]), (preN 2, .func (.func 25) #[] #[])] _ _ (by decide)
  have h4 : (Instr.mapUpdate 46 (.map (some w.heap.size)) (.string (preN 4)) (.func (.func 27) #[] #[])).run Try.prog (w.alloc (.map (mapE [(preN 0, .func (.func 23) #[] #[]), (preN 1, .func (.func 24) #[] #[]), (preN 2, .func (.func 25) #[] #[]), (preN 3, .func (.func 26) #[] #[])]) 4)) = .ok () (w.alloc (.map (mapE [(preN 0, .func (.func 23) #[] #[]), (preN 1, .func (.func 24) #[] #[]), (preN 2, .func (.func 25) #[] #[]), (preN 3, .func (.func 26) #[] #[]), (preN 4, .func (.func 27) #[] #[])]) 5)) := map_put (P := Try.prog) 46 9 44 Try.underlying46 Try.underlying9 w _ rfl [(preN 0, .func (.func 23) #[] #[]), (preN 1, .func (.func 24) #[] #[]), (preN 2, .func (.func 25) #[] #[]), (preN 3, .func (.func 26) #[] #[])] _ _ (by decide)
  have h5 : (Instr.mapUpdate 46 (.map (some w.heap.size)) (.string (preN 5)) (.func (.func 28) #[] #[])).run Try.prog (w.alloc (.map (mapE [(preN 0, .func (.func 23) #[] #[]), (preN 1, .func (.func 24) #[] #[]), (preN 2, .func (.func 25) #[] #[]), (preN 3, .func (.func 26) #[] #[]), (preN 4, .func (.func 27) #[] #[])]) 5)) = .ok () (w.alloc (.map (mapE [(preN 0, .func (.func 23) #[] #[]), (preN 1, .func (.func 24) #[] #[]), (preN 2, .func (.func 25) #[] #[]), (preN 3, .func (.func 26) #[] #[]), (preN 4, .func (.func 27) #[] #[]), (preN 5, .func (.func 28) #[] #[])]) 6)) := map_put (P := Try.prog) 46 9 44 Try.underlying46 Try.underlying9 w _ rfl [(preN 0, .func (.func 23) #[] #[]), (preN 1, .func (.func 24) #[] #[]), (preN 2, .func (.func 25) #[] #[]), (preN 3, .func (.func 26) #[] #[]), (preN 4, .func (.func 27) #[] #[])] _ _ (by decide)
  simp only [preN] at h0 h1 h2 h3 h4 h5
  go_enter Try.func15, Try.ntmps15
  go_wp2_with fail
  go_ret
  exact ⟨rfl, rfl⟩

theorem bld_find (i : Nat) (hi : i < 6) : mapF (preN i) bldL = (bldL[i]?).map (·.2) := by
  rcases (by omega : i = 0 ∨ i = 1 ∨ i = 2 ∨ i = 3 ∨ i = 4 ∨ i = 5) with rfl | rfl | rfl | rfl | rfl | rfl <;> rfl
theorem bld_none {n : ByteArray} (hn : ∀ i, i < 6 → n ≠ preN i) : mapF n bldL = none := by
  simp only [bldL, mapF]
  rw [if_neg (hn 0 (by omega)), if_neg (hn 1 (by omega)), if_neg (hn 2 (by omega)), if_neg (hn 3 (by omega)), if_neg (hn 4 (by omega)), if_neg (hn 5 (by omega))]
theorem look_some (n : ByteArray) (v : Value) (hv : mapF n bldL = some v) (W : World) (o : Obj) : (Instr.lookup 46 (.map (some (W.heap.size + 1))) (.string n) true).run Try.prog ((W.alloc o).alloc (.map (mapE bldL) 6)) = .ok (.tuple #[v, .bool true]) ((W.alloc o).alloc (.map (mapE bldL) 6)) := by
  have h := map_look _ _ _ Try.underlying46 Try.underlying9 _ _ rfl _ _ _ (heap_alloc_new (W.alloc o) (.map (mapE bldL) 6)) n
  rw [hv, World.size_alloc] at h
  exact h
theorem look_none (n : ByteArray) (hv : mapF n bldL = none) : ∀ (W : World) (o : Obj), (Instr.lookup 46 (.map (some (W.heap.size + 1))) (.string n) true).run Try.prog ((W.alloc o).alloc (.map (mapE bldL) 6)) = .ok (.tuple #[.nilFunc, .bool false]) ((W.alloc o).alloc (.map (mapE bldL) 6)) := by
  intro W o
  have h := map_look _ _ _ Try.underlying46 Try.underlying9 .nilFunc _ rfl _ _ _ (heap_alloc_new (W.alloc o) (.map (mapE bldL) 6)) n
  rw [hv, World.size_alloc] at h
  exact h
/-- A configuration without a name. -/
def BldOf (x i : Nat) (w : World) (e : Ending) (w' : World) : Prop := ∃ v, e = .returned (.agg #[.string (preN 6), v, .int .i64 (preF i)]) ∧ ROwn w' w.heap.size v (preR x i) ∧ Below w.heap.size w w'
theorem heap_second (W : World) (a b : Obj) : ((W.alloc a).alloc b).heap[W.heap.size + 1]? = some b := by
  have h : ((W.alloc a).alloc b).heap[(W.alloc a).heap.size]? = some b := heap_alloc_new _ _
  rwa [World.size_alloc] at h
theorem below_second (W : World) (a b : Obj) : Below W.heap.size W ((W.alloc a).alloc b) := ((Below.refl _ _).alloc (Nat.le_refl _) _).alloc (by simp) _
theorem ROwn.wider {w : World} {B B' : Nat} {v : Value} {R : List Rl} (h : ROwn w B v R) (hB : B' ≤ B) : ROwn w B' v R := by
  obtain ⟨h1, h2⟩ := h
  refine ⟨h1, ?_⟩
  rcases h2 with h2 | ⟨g, c, cs, e, hg, h3⟩
  · exact .inl h2
  · exact .inr ⟨g, c, cs, e, Nat.le_trans hB hg, h3⟩
/-- A store into a box of configurations leaves an own row of rules. -/
theorem ROwn.box {w : World} {B g : Nat} {v : Value} {R : List Rl} {cs : Array Value} (h : ROwn w B v R) (hg : Blk w g 28 cs) (k : Nat) (u : Value) : ROwn (w.setCell ⟨g, k, none⟩ u) B v R := by
  obtain ⟨hl, h⟩ := h
  refine ⟨hl, h.imp id fun ⟨y, cap, cur, h1, h2, h3, h4⟩ => ⟨y, cap, cur, h1, h2, (Below.heap_setCell w ⟨g, k, none⟩ u y ?_).trans h3, h4⟩⟩
  rintro rfl
  unfold Blk at hg
  rw [hg] at h3
  injection h3 with h3
  injection h3 with _ h3
  exact absurd h3 (by decide)
/-- Behind the making: the result's block, the box, the rules. -/
def MidP (x i : Nat) (w wx : World) (g : Nat) (A : Option Addr) (c : Nat) : Prop :=
  w.heap.size < g ∧ Blk wx w.heap.size 28 #[.string { data := #[] }, .slice none 0 0, .int .i64 0] ∧ Blk wx g 28 #[.string (preN 6), .slice A (preR x i).length c, .int .i64 (preF i)] ∧ ROwn wx w.heap.size (.slice A (preR x i).length c) (preR x i) ∧ Below w.heap.size w wx
theorem MidP.late {x i c : Nat} {w U wn : World} {A : Option Addr} (hU : Below w.heap.size w U) (hs : w.heap.size < U.heap.size) (hB : Blk U w.heap.size 28 #[.string { data := #[] }, .slice none 0 0, .int .i64 0]) (hb : Below U.heap.size U wn) (ho : ROwn wn U.heap.size (.slice A (preR x i).length c) (preR x i)) :
    MidP x i w (wn.alloc (.cells #[.string (preN 6), .slice A (preR x i).length c, .int .i64 (preF i)] 28)) wn.heap.size A c := by
  have hz := hb.size
  refine ⟨by omega, (hB.next hb).alloc _, Blk.new _ _ _, (ho.next ((Below.refl _ _).alloc (Nat.le_refl _) _)).wider (by omega), (hU.trans (hb.mono (by omega))).alloc (by omega) _⟩
/-- A copy of a name. -/
theorem clone_pre (i : Nat) (hi : i < 6) (w : World) : Calls Try.prog 17 #[.string (preN i)] w fun e w' => e = .returned (.string (preN i)) ∧ Below w.heap.size w w' := by
  have hc := Try.stringslite_Clone (preN i) w (by rcases (by omega : i = 0 ∨ i = 1 ∨ i = 2 ∨ i = 3 ∨ i = 4 ∨ i = 5) with rfl | rfl | rfl | rfl | rfl | rfl <;> decide)
  generalize preN i = s at hc
  go_enter Try.func17, Try.ntmps17
  go_wp2_with fail
  refine hc.mono ?_
  rintro e w' ⟨rfl, hb⟩
  have HB := Lib.hid hb
  clear hc hb
  go_wp2
  go_ret
  exact ⟨rfl, HB.out⟩
theorem build0 (x : Nat) (w : World) : Calls Try.prog 23 #[.float .f64 x] w (BldOf x 0 w) := by
  go_enter Try.func23, Try.ntmps23
  go_wp2_with fail
  exact bodyPost_ret (v := .agg #[.string (preN 6), .slice (some ⟨w.heap.size + 1, 0, none⟩) 1 1, .int .i64 (preF 0)]) (by simp [results, Try.results23, go_sem, preN, preF]) rfl
    ⟨_, rfl, ROwn.of_block (R := preR x 0) (heap_second w _ _) (by omega) (by simp [preR]), below_second w _ _⟩
theorem build1 (x : Nat) (w : World) : Calls Try.prog 24 #[.float .f64 x] w (BldOf x 1 w) := by
  go_enter Try.func24, Try.ntmps24
  go_wp2_with fail
  exact bodyPost_ret (v := .agg #[.string (preN 6), .slice (some ⟨w.heap.size + 1, 0, none⟩) 2 2, .int .i64 (preF 1)]) (by simp [results, Try.results24, go_sem, preN, preF]) rfl
    ⟨_, rfl, ROwn.of_block (R := preR x 1) (heap_second w _ _) (by omega) (by simp [preR]), below_second w _ _⟩
theorem build2 (x : Nat) (w : World) : Calls Try.prog 25 #[.float .f64 x] w (BldOf x 2 w) := by
  go_enter Try.func25, Try.ntmps25
  go_wp2_with fail
  exact bodyPost_ret (v := .agg #[.string (preN 6), .slice (some ⟨w.heap.size + 1, 0, none⟩) 2 2, .int .i64 (preF 2)]) (by simp [results, Try.results25, go_sem, preN, preF]) rfl
    ⟨_, rfl, ROwn.of_block (R := preR x 2) (heap_second w _ _) (by omega) (by simp [preR]), below_second w _ _⟩
theorem build3 (x : Nat) (w : World) : Calls Try.prog 26 #[.float .f64 x] w (BldOf x 3 w) := by
  go_enter Try.func26, Try.ntmps26
  go_wp2_with fail
  exact bodyPost_ret (v := .agg #[.string (preN 6), .slice (some ⟨w.heap.size + 1, 0, none⟩) 1 1, .int .i64 (preF 3)]) (by simp [results, Try.results26, go_sem, preN, preF]) rfl
    ⟨_, rfl, ROwn.of_block (R := preR x 3) (heap_second w _ _) (by omega) (by simp [preR]), below_second w _ _⟩
theorem build4 (x : Nat) (w : World) : Calls Try.prog 27 #[.float .f64 x] w (BldOf x 4 w) := by
  go_enter Try.func27, Try.ntmps27
  go_wp2_with fail
  exact bodyPost_ret (v := .agg #[.string (preN 6), .slice (some ⟨w.heap.size + 1, 0, none⟩) 2 2, .int .i64 (preF 4)]) (by simp [results, Try.results27, go_sem, preN, preF]) rfl
    ⟨_, rfl, ROwn.of_block (R := preR x 4) (heap_second w _ _) (by omega) (by simp [preR]), below_second w _ _⟩
theorem build5 (x : Nat) (w : World) : Calls Try.prog 28 #[.float .f64 x] w (BldOf x 5 w) := by
  go_enter Try.func28, Try.ntmps28
  go_wp2_with fail
  exact bodyPost_ret (v := .agg #[.string (preN 6), .slice (some ⟨w.heap.size + 1, 0, none⟩) 3 3, .int .i64 (preF 5)]) (by simp [results, Try.results28, go_sem, preN, preF]) rfl
    ⟨_, rfl, ROwn.of_block (R := preR x 5) (heap_second w _ _) (by omega) (by simp [preR]), below_second w _ _⟩
set_option maxHeartbeats 4000000 in
theorem get14_y0 (x : Nat) (p : Int) (hq : ∀ W, Calls Try.prog 16 #[.int .i64 p] W fun e w' => e = .returned (.tuple #[.float .f64 x, .int .i64 0]) ∧ W = w') (h0 : (p == 0) = false) (w : World) : Calls Try.prog 9 #[.string (preN 0), .int .i64 p] w fun e w' => ∃ v, e = .returned (.tuple #[.agg #[.string (preN 0), v, .int .i64 (preF 0)], .int .i64 0]) ∧ ROwn w' w.heap.size v (preR x 0) ∧ Below w.heap.size w w' := by
    have hl := look_some (preN 0) _ (bld_find 0 (by omega))
    have hcl := fun W => clone_pre 0 (by omega) W
    simp only [preN] at hl hcl ⊢
    go_enter Try.func9, Try.ntmps9
    go_wp2_with fail
    refine (builders_any _).mono ?_
    rintro e w1 ⟨rfl, rfl⟩
    go_wp2_with fail
    refine (hq _).mono ?_
    rintro e w1 ⟨rfl, rfl⟩
    go_upto_region 7 with fail
    have B0 := (Blk.new w 28 #[.string { data := #[] }, .slice none 0 0, .int .i64 0]).alloc (.map (mapE bldL) 6)
    generalize hU : (w.alloc (.cells #[.string { data := #[] }, .slice none 0 0, .int .i64 0] 28)).alloc (.map (mapE bldL) 6) = U at *
    have HB0 := Lib.hid B0
    have HBU := Lib.hid (show Below w.heap.size w U from hU ▸ below_second w _ _)
    have hsz : w.heap.size < U.heap.size := B0.lt
    clear hU B0 hl
    go_cut [10] (fun q wx => ∃ g A c, q = .pointer (some ⟨g, 0, none⟩) ∧ MidP x 0 w wx g A c)
    case first =>
      go_wp2_with fail
      refine (build0 x _).mono ?_
      rintro e w1 ⟨v, rfl, hv, hb⟩
      obtain ⟨A, c, rfl, _⟩ := hv.slice
      go_wp2_with fail
      go_meet
      exact ⟨_, A, c, rfl, MidP.late HBU.out hsz HB0.out hb hv⟩
    case rest =>
      obtain ⟨g, A, c, rfl, hM⟩ := hcut
      obtain ⟨hg, R0, X0, ho, hbw⟩ := hM
      have HR0 := Lib.hid R0
      have HX0 := Lib.hid X0
      have HO := Lib.hid ho
      have HBW := Lib.hid hbw
      clear R0 X0 ho hbw HB0 HBU hsz
      obtain ⟨T, hT⟩ : ∃ T, T = preR x 0 := ⟨_, rfl⟩
      rw [← hT] at HX0 HO
      have HT := Lib.hid hT
      clear hT
      go_wp2_with (refine (hcl _).mono ?_; rintro e w2 ⟨rfl, hb2⟩; have X2 := HX0.out.next hb2; have R2 := HR0.out.next hb2; have z0 := X2.frozen 0; have q0 := X2.cell 0; have q1 := X2.cell 1; have q2 := X2.cell 2; have y0 := R2.frozen 0; have y1 := R2.frozen 1; have y2 := R2.frozen 2; have p0 := R2.cell 0; have p1 := R2.cell 1; have p2 := R2.cell 2; simp at q0 q1 q2 p0 p1 p2)
      have hb3 := HBW.out.trans (hb2.mono HBW.out.size)
      have ho2 := HO.out.next hb2
      have ho3 := ho2.box X2 0 (.string (preN 0))
      have RZ := R2.far (p := ⟨g, 0, none⟩) (Nat.ne_of_lt hg) (.string (preN 0))
      have ho4 := ho3.box RZ 0 (.string (preN 0))
      have RZ1 := RZ.set_ 0 (.string (preN 0))
      have ho5 := ho4.box RZ1 1 (.slice A T.length c)
      have RZ2 := RZ1.set_ 1 (.slice A T.length c)
      have ho6 := ho5.box RZ2 2 (.int .i64 (preF 0))
      have RZ3 := RZ2.set_ 2 (.int .i64 (preF 0))
      have q0' := RZ3.cell 0
      have q1' := RZ3.cell 1
      have q2' := RZ3.cell 2
      simp [preN] at q0' q1' q2'
      have hT := HT.out
      subst hT
      exact bodyPost_ret (v := .tuple #[.agg #[.string (preN 0), .slice A (preR x 0).length c, .int .i64 (preF 0)], .int .i64 0]) (by simp [results, Try.results9, go_sem, preN, q0', q1', q2']) rfl
        ⟨_, rfl, ho6, (((hb3.setCell (p := ⟨g, 0, none⟩) (Nat.le_of_lt hg) _).setCell (p := ⟨w.heap.size, 0, none⟩) (Nat.le_refl _) _).setCell (p := ⟨w.heap.size, 1, none⟩) (Nat.le_refl _) _).setCell (p := ⟨w.heap.size, 2, none⟩) (Nat.le_refl _) _⟩

set_option maxHeartbeats 4000000 in
theorem get14_y1 (x : Nat) (p : Int) (hq : ∀ W, Calls Try.prog 16 #[.int .i64 p] W fun e w' => e = .returned (.tuple #[.float .f64 x, .int .i64 0]) ∧ W = w') (h0 : (p == 0) = false) (w : World) : Calls Try.prog 9 #[.string (preN 1), .int .i64 p] w fun e w' => ∃ v, e = .returned (.tuple #[.agg #[.string (preN 1), v, .int .i64 (preF 1)], .int .i64 0]) ∧ ROwn w' w.heap.size v (preR x 1) ∧ Below w.heap.size w w' := by
    have hl := look_some (preN 1) _ (bld_find 1 (by omega))
    have hcl := fun W => clone_pre 1 (by omega) W
    simp only [preN] at hl hcl ⊢
    go_enter Try.func9, Try.ntmps9
    go_wp2_with fail
    refine (builders_any _).mono ?_
    rintro e w1 ⟨rfl, rfl⟩
    go_wp2_with fail
    refine (hq _).mono ?_
    rintro e w1 ⟨rfl, rfl⟩
    go_upto_region 7 with fail
    have B0 := (Blk.new w 28 #[.string { data := #[] }, .slice none 0 0, .int .i64 0]).alloc (.map (mapE bldL) 6)
    generalize hU : (w.alloc (.cells #[.string { data := #[] }, .slice none 0 0, .int .i64 0] 28)).alloc (.map (mapE bldL) 6) = U at *
    have HB0 := Lib.hid B0
    have HBU := Lib.hid (show Below w.heap.size w U from hU ▸ below_second w _ _)
    have hsz : w.heap.size < U.heap.size := B0.lt
    clear hU B0 hl
    go_cut [10] (fun q wx => ∃ g A c, q = .pointer (some ⟨g, 0, none⟩) ∧ MidP x 1 w wx g A c)
    case first =>
      go_wp2_with fail
      refine (build1 x _).mono ?_
      rintro e w1 ⟨v, rfl, hv, hb⟩
      obtain ⟨A, c, rfl, _⟩ := hv.slice
      go_wp2_with fail
      go_meet
      exact ⟨_, A, c, rfl, MidP.late HBU.out hsz HB0.out hb hv⟩
    case rest =>
      obtain ⟨g, A, c, rfl, hM⟩ := hcut
      obtain ⟨hg, R0, X0, ho, hbw⟩ := hM
      have HR0 := Lib.hid R0
      have HX0 := Lib.hid X0
      have HO := Lib.hid ho
      have HBW := Lib.hid hbw
      clear R0 X0 ho hbw HB0 HBU hsz
      obtain ⟨T, hT⟩ : ∃ T, T = preR x 1 := ⟨_, rfl⟩
      rw [← hT] at HX0 HO
      have HT := Lib.hid hT
      clear hT
      go_wp2_with (refine (hcl _).mono ?_; rintro e w2 ⟨rfl, hb2⟩; have X2 := HX0.out.next hb2; have R2 := HR0.out.next hb2; have z0 := X2.frozen 0; have q0 := X2.cell 0; have q1 := X2.cell 1; have q2 := X2.cell 2; have y0 := R2.frozen 0; have y1 := R2.frozen 1; have y2 := R2.frozen 2; have p0 := R2.cell 0; have p1 := R2.cell 1; have p2 := R2.cell 2; simp at q0 q1 q2 p0 p1 p2)
      have hb3 := HBW.out.trans (hb2.mono HBW.out.size)
      have ho2 := HO.out.next hb2
      have ho3 := ho2.box X2 0 (.string (preN 1))
      have RZ := R2.far (p := ⟨g, 0, none⟩) (Nat.ne_of_lt hg) (.string (preN 1))
      have ho4 := ho3.box RZ 0 (.string (preN 1))
      have RZ1 := RZ.set_ 0 (.string (preN 1))
      have ho5 := ho4.box RZ1 1 (.slice A T.length c)
      have RZ2 := RZ1.set_ 1 (.slice A T.length c)
      have ho6 := ho5.box RZ2 2 (.int .i64 (preF 1))
      have RZ3 := RZ2.set_ 2 (.int .i64 (preF 1))
      have q0' := RZ3.cell 0
      have q1' := RZ3.cell 1
      have q2' := RZ3.cell 2
      simp [preN] at q0' q1' q2'
      have hT := HT.out
      subst hT
      exact bodyPost_ret (v := .tuple #[.agg #[.string (preN 1), .slice A (preR x 1).length c, .int .i64 (preF 1)], .int .i64 0]) (by simp [results, Try.results9, go_sem, preN, q0', q1', q2']) rfl
        ⟨_, rfl, ho6, (((hb3.setCell (p := ⟨g, 0, none⟩) (Nat.le_of_lt hg) _).setCell (p := ⟨w.heap.size, 0, none⟩) (Nat.le_refl _) _).setCell (p := ⟨w.heap.size, 1, none⟩) (Nat.le_refl _) _).setCell (p := ⟨w.heap.size, 2, none⟩) (Nat.le_refl _) _⟩

set_option maxHeartbeats 4000000 in
theorem get14_y2 (x : Nat) (p : Int) (hq : ∀ W, Calls Try.prog 16 #[.int .i64 p] W fun e w' => e = .returned (.tuple #[.float .f64 x, .int .i64 0]) ∧ W = w') (h0 : (p == 0) = false) (w : World) : Calls Try.prog 9 #[.string (preN 2), .int .i64 p] w fun e w' => ∃ v, e = .returned (.tuple #[.agg #[.string (preN 2), v, .int .i64 (preF 2)], .int .i64 0]) ∧ ROwn w' w.heap.size v (preR x 2) ∧ Below w.heap.size w w' := by
    have hl := look_some (preN 2) _ (bld_find 2 (by omega))
    have hcl := fun W => clone_pre 2 (by omega) W
    simp only [preN] at hl hcl ⊢
    go_enter Try.func9, Try.ntmps9
    go_wp2_with fail
    refine (builders_any _).mono ?_
    rintro e w1 ⟨rfl, rfl⟩
    go_wp2_with fail
    refine (hq _).mono ?_
    rintro e w1 ⟨rfl, rfl⟩
    go_upto_region 7 with fail
    have B0 := (Blk.new w 28 #[.string { data := #[] }, .slice none 0 0, .int .i64 0]).alloc (.map (mapE bldL) 6)
    generalize hU : (w.alloc (.cells #[.string { data := #[] }, .slice none 0 0, .int .i64 0] 28)).alloc (.map (mapE bldL) 6) = U at *
    have HB0 := Lib.hid B0
    have HBU := Lib.hid (show Below w.heap.size w U from hU ▸ below_second w _ _)
    have hsz : w.heap.size < U.heap.size := B0.lt
    clear hU B0 hl
    go_cut [10] (fun q wx => ∃ g A c, q = .pointer (some ⟨g, 0, none⟩) ∧ MidP x 2 w wx g A c)
    case first =>
      go_wp2_with fail
      refine (build2 x _).mono ?_
      rintro e w1 ⟨v, rfl, hv, hb⟩
      obtain ⟨A, c, rfl, _⟩ := hv.slice
      go_wp2_with fail
      go_meet
      exact ⟨_, A, c, rfl, MidP.late HBU.out hsz HB0.out hb hv⟩
    case rest =>
      obtain ⟨g, A, c, rfl, hM⟩ := hcut
      obtain ⟨hg, R0, X0, ho, hbw⟩ := hM
      have HR0 := Lib.hid R0
      have HX0 := Lib.hid X0
      have HO := Lib.hid ho
      have HBW := Lib.hid hbw
      clear R0 X0 ho hbw HB0 HBU hsz
      obtain ⟨T, hT⟩ : ∃ T, T = preR x 2 := ⟨_, rfl⟩
      rw [← hT] at HX0 HO
      have HT := Lib.hid hT
      clear hT
      go_wp2_with (refine (hcl _).mono ?_; rintro e w2 ⟨rfl, hb2⟩; have X2 := HX0.out.next hb2; have R2 := HR0.out.next hb2; have z0 := X2.frozen 0; have q0 := X2.cell 0; have q1 := X2.cell 1; have q2 := X2.cell 2; have y0 := R2.frozen 0; have y1 := R2.frozen 1; have y2 := R2.frozen 2; have p0 := R2.cell 0; have p1 := R2.cell 1; have p2 := R2.cell 2; simp at q0 q1 q2 p0 p1 p2)
      have hb3 := HBW.out.trans (hb2.mono HBW.out.size)
      have ho2 := HO.out.next hb2
      have ho3 := ho2.box X2 0 (.string (preN 2))
      have RZ := R2.far (p := ⟨g, 0, none⟩) (Nat.ne_of_lt hg) (.string (preN 2))
      have ho4 := ho3.box RZ 0 (.string (preN 2))
      have RZ1 := RZ.set_ 0 (.string (preN 2))
      have ho5 := ho4.box RZ1 1 (.slice A T.length c)
      have RZ2 := RZ1.set_ 1 (.slice A T.length c)
      have ho6 := ho5.box RZ2 2 (.int .i64 (preF 2))
      have RZ3 := RZ2.set_ 2 (.int .i64 (preF 2))
      have q0' := RZ3.cell 0
      have q1' := RZ3.cell 1
      have q2' := RZ3.cell 2
      simp [preN] at q0' q1' q2'
      have hT := HT.out
      subst hT
      exact bodyPost_ret (v := .tuple #[.agg #[.string (preN 2), .slice A (preR x 2).length c, .int .i64 (preF 2)], .int .i64 0]) (by simp [results, Try.results9, go_sem, preN, q0', q1', q2']) rfl
        ⟨_, rfl, ho6, (((hb3.setCell (p := ⟨g, 0, none⟩) (Nat.le_of_lt hg) _).setCell (p := ⟨w.heap.size, 0, none⟩) (Nat.le_refl _) _).setCell (p := ⟨w.heap.size, 1, none⟩) (Nat.le_refl _) _).setCell (p := ⟨w.heap.size, 2, none⟩) (Nat.le_refl _) _⟩

set_option maxHeartbeats 4000000 in
theorem get14_y3 (x : Nat) (p : Int) (hq : ∀ W, Calls Try.prog 16 #[.int .i64 p] W fun e w' => e = .returned (.tuple #[.float .f64 x, .int .i64 0]) ∧ W = w') (h0 : (p == 0) = false) (w : World) : Calls Try.prog 9 #[.string (preN 3), .int .i64 p] w fun e w' => ∃ v, e = .returned (.tuple #[.agg #[.string (preN 3), v, .int .i64 (preF 3)], .int .i64 0]) ∧ ROwn w' w.heap.size v (preR x 3) ∧ Below w.heap.size w w' := by
    have hl := look_some (preN 3) _ (bld_find 3 (by omega))
    have hcl := fun W => clone_pre 3 (by omega) W
    simp only [preN] at hl hcl ⊢
    go_enter Try.func9, Try.ntmps9
    go_wp2_with fail
    refine (builders_any _).mono ?_
    rintro e w1 ⟨rfl, rfl⟩
    go_wp2_with fail
    refine (hq _).mono ?_
    rintro e w1 ⟨rfl, rfl⟩
    go_upto_region 7 with fail
    have B0 := (Blk.new w 28 #[.string { data := #[] }, .slice none 0 0, .int .i64 0]).alloc (.map (mapE bldL) 6)
    generalize hU : (w.alloc (.cells #[.string { data := #[] }, .slice none 0 0, .int .i64 0] 28)).alloc (.map (mapE bldL) 6) = U at *
    have HB0 := Lib.hid B0
    have HBU := Lib.hid (show Below w.heap.size w U from hU ▸ below_second w _ _)
    have hsz : w.heap.size < U.heap.size := B0.lt
    clear hU B0 hl
    go_cut [10] (fun q wx => ∃ g A c, q = .pointer (some ⟨g, 0, none⟩) ∧ MidP x 3 w wx g A c)
    case first =>
      go_wp2_with fail
      refine (build3 x _).mono ?_
      rintro e w1 ⟨v, rfl, hv, hb⟩
      obtain ⟨A, c, rfl, _⟩ := hv.slice
      go_wp2_with fail
      go_meet
      exact ⟨_, A, c, rfl, MidP.late HBU.out hsz HB0.out hb hv⟩
    case rest =>
      obtain ⟨g, A, c, rfl, hM⟩ := hcut
      obtain ⟨hg, R0, X0, ho, hbw⟩ := hM
      have HR0 := Lib.hid R0
      have HX0 := Lib.hid X0
      have HO := Lib.hid ho
      have HBW := Lib.hid hbw
      clear R0 X0 ho hbw HB0 HBU hsz
      obtain ⟨T, hT⟩ : ∃ T, T = preR x 3 := ⟨_, rfl⟩
      rw [← hT] at HX0 HO
      have HT := Lib.hid hT
      clear hT
      go_wp2_with (refine (hcl _).mono ?_; rintro e w2 ⟨rfl, hb2⟩; have X2 := HX0.out.next hb2; have R2 := HR0.out.next hb2; have z0 := X2.frozen 0; have q0 := X2.cell 0; have q1 := X2.cell 1; have q2 := X2.cell 2; have y0 := R2.frozen 0; have y1 := R2.frozen 1; have y2 := R2.frozen 2; have p0 := R2.cell 0; have p1 := R2.cell 1; have p2 := R2.cell 2; simp at q0 q1 q2 p0 p1 p2)
      have hb3 := HBW.out.trans (hb2.mono HBW.out.size)
      have ho2 := HO.out.next hb2
      have ho3 := ho2.box X2 0 (.string (preN 3))
      have RZ := R2.far (p := ⟨g, 0, none⟩) (Nat.ne_of_lt hg) (.string (preN 3))
      have ho4 := ho3.box RZ 0 (.string (preN 3))
      have RZ1 := RZ.set_ 0 (.string (preN 3))
      have ho5 := ho4.box RZ1 1 (.slice A T.length c)
      have RZ2 := RZ1.set_ 1 (.slice A T.length c)
      have ho6 := ho5.box RZ2 2 (.int .i64 (preF 3))
      have RZ3 := RZ2.set_ 2 (.int .i64 (preF 3))
      have q0' := RZ3.cell 0
      have q1' := RZ3.cell 1
      have q2' := RZ3.cell 2
      simp [preN] at q0' q1' q2'
      have hT := HT.out
      subst hT
      exact bodyPost_ret (v := .tuple #[.agg #[.string (preN 3), .slice A (preR x 3).length c, .int .i64 (preF 3)], .int .i64 0]) (by simp [results, Try.results9, go_sem, preN, q0', q1', q2']) rfl
        ⟨_, rfl, ho6, (((hb3.setCell (p := ⟨g, 0, none⟩) (Nat.le_of_lt hg) _).setCell (p := ⟨w.heap.size, 0, none⟩) (Nat.le_refl _) _).setCell (p := ⟨w.heap.size, 1, none⟩) (Nat.le_refl _) _).setCell (p := ⟨w.heap.size, 2, none⟩) (Nat.le_refl _) _⟩

set_option maxHeartbeats 4000000 in
theorem get14_y4 (x : Nat) (p : Int) (hq : ∀ W, Calls Try.prog 16 #[.int .i64 p] W fun e w' => e = .returned (.tuple #[.float .f64 x, .int .i64 0]) ∧ W = w') (h0 : (p == 0) = false) (w : World) : Calls Try.prog 9 #[.string (preN 4), .int .i64 p] w fun e w' => ∃ v, e = .returned (.tuple #[.agg #[.string (preN 4), v, .int .i64 (preF 4)], .int .i64 0]) ∧ ROwn w' w.heap.size v (preR x 4) ∧ Below w.heap.size w w' := by
    have hl := look_some (preN 4) _ (bld_find 4 (by omega))
    have hcl := fun W => clone_pre 4 (by omega) W
    simp only [preN] at hl hcl ⊢
    go_enter Try.func9, Try.ntmps9
    go_wp2_with fail
    refine (builders_any _).mono ?_
    rintro e w1 ⟨rfl, rfl⟩
    go_wp2_with fail
    refine (hq _).mono ?_
    rintro e w1 ⟨rfl, rfl⟩
    go_upto_region 7 with fail
    have B0 := (Blk.new w 28 #[.string { data := #[] }, .slice none 0 0, .int .i64 0]).alloc (.map (mapE bldL) 6)
    generalize hU : (w.alloc (.cells #[.string { data := #[] }, .slice none 0 0, .int .i64 0] 28)).alloc (.map (mapE bldL) 6) = U at *
    have HB0 := Lib.hid B0
    have HBU := Lib.hid (show Below w.heap.size w U from hU ▸ below_second w _ _)
    have hsz : w.heap.size < U.heap.size := B0.lt
    clear hU B0 hl
    go_cut [10] (fun q wx => ∃ g A c, q = .pointer (some ⟨g, 0, none⟩) ∧ MidP x 4 w wx g A c)
    case first =>
      go_wp2_with fail
      refine (build4 x _).mono ?_
      rintro e w1 ⟨v, rfl, hv, hb⟩
      obtain ⟨A, c, rfl, _⟩ := hv.slice
      go_wp2_with fail
      go_meet
      exact ⟨_, A, c, rfl, MidP.late HBU.out hsz HB0.out hb hv⟩
    case rest =>
      obtain ⟨g, A, c, rfl, hM⟩ := hcut
      obtain ⟨hg, R0, X0, ho, hbw⟩ := hM
      have HR0 := Lib.hid R0
      have HX0 := Lib.hid X0
      have HO := Lib.hid ho
      have HBW := Lib.hid hbw
      clear R0 X0 ho hbw HB0 HBU hsz
      obtain ⟨T, hT⟩ : ∃ T, T = preR x 4 := ⟨_, rfl⟩
      rw [← hT] at HX0 HO
      have HT := Lib.hid hT
      clear hT
      go_wp2_with (refine (hcl _).mono ?_; rintro e w2 ⟨rfl, hb2⟩; have X2 := HX0.out.next hb2; have R2 := HR0.out.next hb2; have z0 := X2.frozen 0; have q0 := X2.cell 0; have q1 := X2.cell 1; have q2 := X2.cell 2; have y0 := R2.frozen 0; have y1 := R2.frozen 1; have y2 := R2.frozen 2; have p0 := R2.cell 0; have p1 := R2.cell 1; have p2 := R2.cell 2; simp at q0 q1 q2 p0 p1 p2)
      have hb3 := HBW.out.trans (hb2.mono HBW.out.size)
      have ho2 := HO.out.next hb2
      have ho3 := ho2.box X2 0 (.string (preN 4))
      have RZ := R2.far (p := ⟨g, 0, none⟩) (Nat.ne_of_lt hg) (.string (preN 4))
      have ho4 := ho3.box RZ 0 (.string (preN 4))
      have RZ1 := RZ.set_ 0 (.string (preN 4))
      have ho5 := ho4.box RZ1 1 (.slice A T.length c)
      have RZ2 := RZ1.set_ 1 (.slice A T.length c)
      have ho6 := ho5.box RZ2 2 (.int .i64 (preF 4))
      have RZ3 := RZ2.set_ 2 (.int .i64 (preF 4))
      have q0' := RZ3.cell 0
      have q1' := RZ3.cell 1
      have q2' := RZ3.cell 2
      simp [preN] at q0' q1' q2'
      have hT := HT.out
      subst hT
      exact bodyPost_ret (v := .tuple #[.agg #[.string (preN 4), .slice A (preR x 4).length c, .int .i64 (preF 4)], .int .i64 0]) (by simp [results, Try.results9, go_sem, preN, q0', q1', q2']) rfl
        ⟨_, rfl, ho6, (((hb3.setCell (p := ⟨g, 0, none⟩) (Nat.le_of_lt hg) _).setCell (p := ⟨w.heap.size, 0, none⟩) (Nat.le_refl _) _).setCell (p := ⟨w.heap.size, 1, none⟩) (Nat.le_refl _) _).setCell (p := ⟨w.heap.size, 2, none⟩) (Nat.le_refl _) _⟩

set_option maxHeartbeats 4000000 in
theorem get14_y5 (x : Nat) (p : Int) (hq : ∀ W, Calls Try.prog 16 #[.int .i64 p] W fun e w' => e = .returned (.tuple #[.float .f64 x, .int .i64 0]) ∧ W = w') (h0 : (p == 0) = false) (w : World) : Calls Try.prog 9 #[.string (preN 5), .int .i64 p] w fun e w' => ∃ v, e = .returned (.tuple #[.agg #[.string (preN 5), v, .int .i64 (preF 5)], .int .i64 0]) ∧ ROwn w' w.heap.size v (preR x 5) ∧ Below w.heap.size w w' := by
    have hl := look_some (preN 5) _ (bld_find 5 (by omega))
    have hcl := fun W => clone_pre 5 (by omega) W
    simp only [preN] at hl hcl ⊢
    go_enter Try.func9, Try.ntmps9
    go_wp2_with fail
    refine (builders_any _).mono ?_
    rintro e w1 ⟨rfl, rfl⟩
    go_wp2_with fail
    refine (hq _).mono ?_
    rintro e w1 ⟨rfl, rfl⟩
    go_upto_region 7 with fail
    have B0 := (Blk.new w 28 #[.string { data := #[] }, .slice none 0 0, .int .i64 0]).alloc (.map (mapE bldL) 6)
    generalize hU : (w.alloc (.cells #[.string { data := #[] }, .slice none 0 0, .int .i64 0] 28)).alloc (.map (mapE bldL) 6) = U at *
    have HB0 := Lib.hid B0
    have HBU := Lib.hid (show Below w.heap.size w U from hU ▸ below_second w _ _)
    have hsz : w.heap.size < U.heap.size := B0.lt
    clear hU B0 hl
    go_cut [10] (fun q wx => ∃ g A c, q = .pointer (some ⟨g, 0, none⟩) ∧ MidP x 5 w wx g A c)
    case first =>
      go_wp2_with fail
      refine (build5 x _).mono ?_
      rintro e w1 ⟨v, rfl, hv, hb⟩
      obtain ⟨A, c, rfl, _⟩ := hv.slice
      go_wp2_with fail
      go_meet
      exact ⟨_, A, c, rfl, MidP.late HBU.out hsz HB0.out hb hv⟩
    case rest =>
      obtain ⟨g, A, c, rfl, hM⟩ := hcut
      obtain ⟨hg, R0, X0, ho, hbw⟩ := hM
      have HR0 := Lib.hid R0
      have HX0 := Lib.hid X0
      have HO := Lib.hid ho
      have HBW := Lib.hid hbw
      clear R0 X0 ho hbw HB0 HBU hsz
      obtain ⟨T, hT⟩ : ∃ T, T = preR x 5 := ⟨_, rfl⟩
      rw [← hT] at HX0 HO
      have HT := Lib.hid hT
      clear hT
      go_wp2_with (refine (hcl _).mono ?_; rintro e w2 ⟨rfl, hb2⟩; have X2 := HX0.out.next hb2; have R2 := HR0.out.next hb2; have z0 := X2.frozen 0; have q0 := X2.cell 0; have q1 := X2.cell 1; have q2 := X2.cell 2; have y0 := R2.frozen 0; have y1 := R2.frozen 1; have y2 := R2.frozen 2; have p0 := R2.cell 0; have p1 := R2.cell 1; have p2 := R2.cell 2; simp at q0 q1 q2 p0 p1 p2)
      have hb3 := HBW.out.trans (hb2.mono HBW.out.size)
      have ho2 := HO.out.next hb2
      have ho3 := ho2.box X2 0 (.string (preN 5))
      have RZ := R2.far (p := ⟨g, 0, none⟩) (Nat.ne_of_lt hg) (.string (preN 5))
      have ho4 := ho3.box RZ 0 (.string (preN 5))
      have RZ1 := RZ.set_ 0 (.string (preN 5))
      have ho5 := ho4.box RZ1 1 (.slice A T.length c)
      have RZ2 := RZ1.set_ 1 (.slice A T.length c)
      have ho6 := ho5.box RZ2 2 (.int .i64 (preF 5))
      have RZ3 := RZ2.set_ 2 (.int .i64 (preF 5))
      have q0' := RZ3.cell 0
      have q1' := RZ3.cell 1
      have q2' := RZ3.cell 2
      simp [preN] at q0' q1' q2'
      have hT := HT.out
      subst hT
      exact bodyPost_ret (v := .tuple #[.agg #[.string (preN 5), .slice A (preR x 5).length c, .int .i64 (preF 5)], .int .i64 0]) (by simp [results, Try.results9, go_sem, preN, q0', q1', q2']) rfl
        ⟨_, rfl, ho6, (((hb3.setCell (p := ⟨g, 0, none⟩) (Nat.le_of_lt hg) _).setCell (p := ⟨w.heap.size, 0, none⟩) (Nat.le_refl _) _).setCell (p := ⟨w.heap.size, 1, none⟩) (Nat.le_refl _) _).setCell (p := ⟨w.heap.size, 2, none⟩) (Nat.le_refl _) _⟩

theorem get14_yes (i : Nat) (hi : i < 6) (p : Int) (w : World) (hp : okP p) : Calls Try.prog 9 #[.string (preN i), .int .i64 p] w (GetOf (preN i) p w) := by
  obtain ⟨e1, e2, e3, e4⟩ := gets_yes hi hp
  unfold GetOf
  rw [e1, e2, e3, e4]
  clear e1 e2 e3 e4
  have hq := fun W => Sh.percent_any p (by have := hp.1; omega) (by have := hp.2; omega) W
  rw [(pct_share hp.1 hp.2).2.2] at hq
  have h0 : (p == 0) = false := by have := hp.1; simp; omega
  clear hp
  generalize Sh.pcF p = x at *
  rcases (by omega : i = 0 ∨ i = 1 ∨ i = 2 ∨ i = 3 ∨ i = 4 ∨ i = 5) with rfl | rfl | rfl | rfl | rfl | rfl
  · exact get14_y0 x p hq h0 w
  · exact get14_y1 x p hq h0 w
  · exact get14_y2 x p hq h0 w
  · exact get14_y3 x p hq h0 w
  · exact get14_y4 x p hq h0 w
  · exact get14_y5 x p hq h0 w
set_option maxHeartbeats 4000000 in
theorem get14_bad (i : Nat) (hi : i < 6) (p : Int) (g0 : -9223372036854775808 ≤ p) (g1 : p ≤ 9223372036854775807) (w : World) (hp : ¬okP p) : Calls Try.prog 9 #[.string (preN i), .int .i64 p] w (GetOf (preN i) p w) := by
  obtain ⟨e1, e2, e3, e4⟩ := gets_bad hi hp
  unfold GetOf
  rw [e1, e2, e3, e4]
  clear e1 e2 e3 e4
  have hq := fun W => Sh.percent_any p g0 g1 W
  have hc : Sh.pcE p = 1 ∨ (Sh.pcE p = 0 ∧ (p == 0) = true) := by
    unfold Sh.pcE
    unfold okP at hp
    split
    · exact .inr ⟨rfl, by simp; omega⟩
    · exact .inl rfl
  clear hp
  generalize Sh.pcF p = x at *
  generalize Sh.pcE p = y at *
  rcases (by omega : i = 0 ∨ i = 1 ∨ i = 2 ∨ i = 3 ∨ i = 4 ∨ i = 5) with rfl | rfl | rfl | rfl | rfl | rfl
  · have hl := look_some (preN 0) _ (bld_find 0 (by omega))
    simp only [preN] at hl ⊢
    rcases hc with rfl | ⟨rfl, h0⟩
    all_goals
      go_enter Try.func9, Try.ntmps9
      go_wp2_with fail
      refine (builders_any _).mono ?_
      rintro e w1 ⟨rfl, rfl⟩
      go_wp2_with fail
      refine (hq _).mono ?_
      rintro e w1 ⟨rfl, rfl⟩
      go_wp2_with fail
      exact bodyPost_ret (v := .tuple #[.agg #[.string (preN 6), .slice none 0 0, .int .i64 0], .int .i64 6]) (by simp [results, Try.results9, go_sem, preN]) rfl ⟨_, rfl, ROwn.nil _ _, below_second w _ _⟩
  · have hl := look_some (preN 1) _ (bld_find 1 (by omega))
    simp only [preN] at hl ⊢
    rcases hc with rfl | ⟨rfl, h0⟩
    all_goals
      go_enter Try.func9, Try.ntmps9
      go_wp2_with fail
      refine (builders_any _).mono ?_
      rintro e w1 ⟨rfl, rfl⟩
      go_wp2_with fail
      refine (hq _).mono ?_
      rintro e w1 ⟨rfl, rfl⟩
      go_wp2_with fail
      exact bodyPost_ret (v := .tuple #[.agg #[.string (preN 6), .slice none 0 0, .int .i64 0], .int .i64 6]) (by simp [results, Try.results9, go_sem, preN]) rfl ⟨_, rfl, ROwn.nil _ _, below_second w _ _⟩
  · have hl := look_some (preN 2) _ (bld_find 2 (by omega))
    simp only [preN] at hl ⊢
    rcases hc with rfl | ⟨rfl, h0⟩
    all_goals
      go_enter Try.func9, Try.ntmps9
      go_wp2_with fail
      refine (builders_any _).mono ?_
      rintro e w1 ⟨rfl, rfl⟩
      go_wp2_with fail
      refine (hq _).mono ?_
      rintro e w1 ⟨rfl, rfl⟩
      go_wp2_with fail
      exact bodyPost_ret (v := .tuple #[.agg #[.string (preN 6), .slice none 0 0, .int .i64 0], .int .i64 6]) (by simp [results, Try.results9, go_sem, preN]) rfl ⟨_, rfl, ROwn.nil _ _, below_second w _ _⟩
  · have hl := look_some (preN 3) _ (bld_find 3 (by omega))
    simp only [preN] at hl ⊢
    rcases hc with rfl | ⟨rfl, h0⟩
    all_goals
      go_enter Try.func9, Try.ntmps9
      go_wp2_with fail
      refine (builders_any _).mono ?_
      rintro e w1 ⟨rfl, rfl⟩
      go_wp2_with fail
      refine (hq _).mono ?_
      rintro e w1 ⟨rfl, rfl⟩
      go_wp2_with fail
      exact bodyPost_ret (v := .tuple #[.agg #[.string (preN 6), .slice none 0 0, .int .i64 0], .int .i64 6]) (by simp [results, Try.results9, go_sem, preN]) rfl ⟨_, rfl, ROwn.nil _ _, below_second w _ _⟩
  · have hl := look_some (preN 4) _ (bld_find 4 (by omega))
    simp only [preN] at hl ⊢
    rcases hc with rfl | ⟨rfl, h0⟩
    all_goals
      go_enter Try.func9, Try.ntmps9
      go_wp2_with fail
      refine (builders_any _).mono ?_
      rintro e w1 ⟨rfl, rfl⟩
      go_wp2_with fail
      refine (hq _).mono ?_
      rintro e w1 ⟨rfl, rfl⟩
      go_wp2_with fail
      exact bodyPost_ret (v := .tuple #[.agg #[.string (preN 6), .slice none 0 0, .int .i64 0], .int .i64 6]) (by simp [results, Try.results9, go_sem, preN]) rfl ⟨_, rfl, ROwn.nil _ _, below_second w _ _⟩
  · have hl := look_some (preN 5) _ (bld_find 5 (by omega))
    simp only [preN] at hl ⊢
    rcases hc with rfl | ⟨rfl, h0⟩
    all_goals
      go_enter Try.func9, Try.ntmps9
      go_wp2_with fail
      refine (builders_any _).mono ?_
      rintro e w1 ⟨rfl, rfl⟩
      go_wp2_with fail
      refine (hq _).mono ?_
      rintro e w1 ⟨rfl, rfl⟩
      go_wp2_with fail
      exact bodyPost_ret (v := .tuple #[.agg #[.string (preN 6), .slice none 0 0, .int .i64 0], .int .i64 6]) (by simp [results, Try.results9, go_sem, preN]) rfl ⟨_, rfl, ROwn.nil _ _, below_second w _ _⟩
theorem get14_none (n : ByteArray) (hn : ∀ i, i < 6 → n ≠ preN i) (p : Int) (w : World) : Calls Try.prog 9 #[.string n, .int .i64 p] w (GetOf n p w) := by
  obtain ⟨e1, e2, e3, e4⟩ := gets_none hn p
  unfold GetOf
  rw [e1, e2, e3, e4]
  clear e1 e2 e3 e4
  have hl := look_none n (bld_none hn)
  clear hn
  go_enter Try.func9, Try.ntmps9
  go_wp2_with fail
  refine (builders_any _).mono ?_
  rintro e w1 ⟨rfl, rfl⟩
  go_wp2_with fail
  exact bodyPost_ret (v := .tuple #[.agg #[.string (preN 6), .slice none 0 0, .int .i64 0], .int .i64 7]) (by simp [results, Try.results9, go_sem, preN]) rfl ⟨_, rfl, ROwn.nil _ _, below_second w _ _⟩
theorem get14_any (n : ByteArray) (p : Int) (h0 : -9223372036854775808 ≤ p) (h1 : p ≤ 9223372036854775807) (w : World) : Calls Try.prog 9 #[.string n, .int .i64 p] w (GetOf n p w) := by
  rcases idxN_cases n with ⟨i, hi, rfl, _⟩ | ⟨_, hn⟩
  · by_cases hp : okP p
    · exact get14_yes i hi p w hp
    · exact get14_bad i hi p h0 h1 w hp
  · exact get14_none n hn p w
theorem names14_any (w : World) : Calls Try.prog 6 #[] w fun e w' => e = .returned (.slice (some ⟨w.heap.size, 0, none⟩) 6 6) ∧ w' = w.alloc (.cells #[.string (preN 0), .string (preN 1), .string (preN 2), .string (preN 3), .string (preN 4), .string (preN 5)] 9) := by
  go_enter Try.func6, Try.ntmps6
  go_wp2
  go_ret
  exact ⟨rfl, rfl⟩
end Go.Proofs.Ytnoeefbipdpeaaa
