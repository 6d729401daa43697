/-
  Package remset as it landed: slices.Insert of a set (into a row that is full) and of a number (into a row of the call's own).
-/
import Derived.Test.YtjkbjbikofindaaRDb
import Derived.Lib.AppendZerosOnto
import Derived.Deep.RegionLaw
import Derived.Laws.NewBlocks
namespace Go.Proofs.Ytjkbjbikofindaa
open Go.RowKit
set_option maxRecDepth 100000
set_option linter.unusedVariables false

/-- copy of elements of any size into a row that is whole. -/
theorem run_copy_rowN {P : Program} (w : World) (dT sT ty elem : TypeId) (g o dLen dCap : Nat) (a : Addr) (sLen sCap size m : Nat) (cur : Array Value) (t : TypeId) (cs : List Value)
    (hu : P.underlying dT = some (.slice elem)) (hs : (P.info? elem).map (·.size) = some size)
    (hg : w.heap[g]? = some (.cells cur t (0, 0))) (hm : Nat.min sLen dLen = m) (hn : cs.length = m * size)
    (hsrc : ∀ j v, cs[j]? = some v → w.cell? (a.add j) = some v) (hfit : o + cs.length ≤ cur.size) (h1 : ∀ v ∈ cs, v.oneCell' = true) :
    (Builtin.copy_ #[dT, sT] ty #[.slice (some ⟨g, o, none⟩) dLen dCap, .slice (some a) sLen sCap]).run P w =
      .ok (goInt m) (w.setRow g (cur.toList.take o ++ cs ++ cur.toList.drop (o + cs.length)).toArray) := by
  have hl := run_loadCells_list (P := P) w a cs hsrc
  have hst := run_storeCells_at P g o t cs 0 cur w hg (by simpa using hfit) h1
  rw [hn] at hl
  cases hq : P.info? elem with
  | none => simp [hq] at hs
  | some i =>
    have hi : i.size = size := by simpa [hq] using hs
    simp [Builtin.copy_, run_underlying hu, Builtin.lenOf, Builtin.firstCells, sizeOf, typeInfo, hq, hi, hm, hl, hst]
theorem wpList_copy_run {P : Program} (w : World) {ops : Array Oper} {rest : List Oper} {o : Oper} {a : Act} {Q : Exit → Act → World → Prop} (hgd : o.guard = none) (d s : Operand) (t t' : TypeId)
    (ho : o.op = .call { callee := .builtin .copy, args := #[d, s], argTypes := #[t, t'] }) (v u : Value) (hd : a.eval d = v) (hs : a.eval s = u) {v' : Value} {w' : World}
    (hr : (Builtin.copy_ #[t, t'] o.type #[v, u]).run P w = .ok v' w') (h : wpList P ops Q rest (a.put o.dst v') w') : wpList P ops Q (o :: rest) a w := by
  refine wpList_plain hgd fun _ hK => ?_
  unfold Oper.wp execOp
  simp only [ho, resolve, invoke, builtin, Sem.run_bind, Sem.run_pure, Result.andThen_ok, List.map_toArray, List.map_cons, List.map_nil, hd, hs, hr]
  exact hK _ _ h
theorem step_copy_run {P : Program} {ops : Array Oper} {o : Oper} {a : Act} {w : World} {K : Act → World → Prop} {Q : Exit → Act → World → Prop} {E : Prop}
    (hg : o.guard = none) (d x : Operand) (dT sT : TypeId) (hop : o.op = Op.call { callee := Callee.builtin Builtin.copy, args := #[d, x], argTypes := #[dT, sT] })
    (v u : Value) (hd : a.eval d = v) (hx : a.eval x = u) {v' : Value} {w' : World} (hr : (Builtin.copy_ #[dT, sT] o.type #[v, u]).run P w = .ok v' w') (hK : K (a.put o.dst v') w') :
    if Region.wanted o (yielded ops a.tmps) = true then Oper.wp P o a w K Q else E := by
  have hw : Region.wanted o (yielded ops a.tmps) = true := by simp [Region.wanted, hg]
  rw [if_pos hw]
  unfold Oper.wp
  simp [execOp, hop, resolve, invoke, builtin, hd, hx, hr, Result.andThen]
  exact hK

/-- A row with something put in. -/
theorem put_in {α : Type} (X Y V R0 R1 : List α) (i m : Nat) (hX : X.length = i) (hV : V.length = m) (hR : R0.length = m + Y.length) :
    (((X ++ (R0 ++ R1)).take i ++ V ++ (X ++ (R0 ++ R1)).drop (i + V.length)).take (i + m) ++ Y ++ ((X ++ (R0 ++ R1)).take i ++ V ++ (X ++ (R0 ++ R1)).drop (i + V.length)).drop (i + m + Y.length)) = X ++ V ++ Y ++ R1 := by
  subst hX hV
  have e1 : (X ++ (R0 ++ R1)).take X.length = X := by simp
  rw [e1]
  have e2 : (X ++ V ++ (X ++ (R0 ++ R1)).drop (X.length + V.length)).take (X.length + V.length) = X ++ V := by
    rw [List.take_append_of_le_length (by simp)]
    exact List.take_of_length_le (by simp)
  rw [e2]
  have e3 : (X ++ V ++ (X ++ (R0 ++ R1)).drop (X.length + V.length)).drop (X.length + V.length + Y.length) = R1 := by
    have h1 : (X ++ (R0 ++ R1)).drop (X.length + V.length) = (R0 ++ R1).drop V.length := by
      rw [List.drop_append]
      simp
    rw [h1, List.drop_append]
    have h2 : (X ++ V).drop (X.length + V.length + Y.length) = [] := List.drop_eq_nil_of_le (by simp)
    rw [h2, List.nil_append, List.drop_drop, show V.length + (X.length + V.length + Y.length - (X ++ V).length) = R0.length by simp; omega]
    simp
  rw [e3]

/-- What slices.Insert of a set answers. -/
def PutRow (xs : List Value) (n : Nat) (w : World) (e : Ending) (w' : World) : Prop := ∃ v, e = .returned v ∧ w'.ownsRow w.heap.size 57 3 v n xs ∧ Below w.heap.size w w'

set_option maxHeartbeats 4000000 in
theorem insS_any (g n i vb : Nat) (cs vs : List Value) (w : World) (hi : i ≤ n) (hn : n ≤ 1048576) (hcl : cs.length = n * 3) (hvl : vs.length = 3) (hgl : g < w.heap.size)
    (hcs : ∀ (j : Nat) (u : Value), cs[j]? = some u → w.cell? ⟨g, j, none⟩ = some u) (hvs : ∀ (j : Nat) (u : Value), vs[j]? = some u → w.cell? ⟨vb, j, none⟩ = some u) (h1c : ∀ u ∈ cs, u.oneCell' = true) (h1v : ∀ u ∈ vs, u.oneCell' = true) :
    Calls Try.prog 57 #[.slice (some ⟨g, 0, none⟩) n n, .int .i64 i, .slice (some ⟨vb, 0, none⟩) 1 1] w (PutRow (cs.take (i * 3) ++ vs ++ cs.drop (i * 3)) (n + 1) w) := by
  obtain ⟨i0, hi0, hz0, hzs, hzb⟩ := info_parts set_info
  obtain ⟨v0, hv0⟩ : ∃ u, vs[0]? = some u := ⟨_, List.getElem?_eq_getElem (by omega)⟩
  have hvw : vb < w.heap.size := cell_lt (hvs 0 v0 hv0)
  have hcs' : ∀ (j : Nat) (u : Value), cs[j]? = some u → w.cell? ((⟨g, 0, none⟩ : Addr).add j) = some u := fun j u hj => by rw [add_at]; simpa using hcs j u hj
  have hvs' : ∀ (j : Nat) (u : Value), vs[j]? = some u → w.cell? ((⟨vb, 0, none⟩ : Addr).add j) = some u := fun j u hj => by rw [add_at]; simpa using hvs j u hj
  have hG1 : n + 1 ≤ grownCap w (n + 1) n 57 := grownCap_ge w _ _ _
  have hG2 : grownCap w (n + 1) n 57 ≤ maxLen := grownCap_le_maxLen w (n + 1) n 57 (by unfold maxLen; omega)
  obtain ⟨G, hG⟩ : ∃ G, G = grownCap w (n + 1) n 57 := ⟨_, rfl⟩
  by_cases hin : i = n
  · subst hin
    have hsrc : Src Try.prog i0.size 26 (.slice (some ⟨vb, 0, none⟩) 1 1) 1 vs w := by
      rw [hzs]
      exact Src.ofSlice w Try.underlying26 ⟨vb, 0, none⟩ 1 1 vs (by omega) hvs' h1v
    have hold : (Builtin.firstCells i0.size i (.slice (some ⟨g, 0, none⟩) i i)).run Try.prog w.drew = .ok cs.toArray w.drew := by
      rw [hzs]
      exact run_firstCells_some w.drew 3 i ⟨g, 0, none⟩ i i cs hcl hcs'
    have hrun : ∀ ty, (Builtin.append_ #[26, 26] ty #[.slice (some ⟨g, 0, none⟩) i i, .slice (some ⟨vb, 0, none⟩) 1 1]).run Try.prog w = _ := fun ty =>
      run_append_grow_src w 26 26 ty 57 i0 _ Try.underlying26 hi0 hz0 (some ⟨g, 0, none⟩) i i cs hold _ 1 vs hsrc (by omega) (by omega) (by rw [hzb]; exact growslice_fits (by omega) (by omega))
    rw [← hG] at hrun hG1 hG2
    have HOWN : Hid (∀ W : World, W = w.drew.alloc (.cells ((cs ++ vs).toArray ++ Builtin.zeroCells (Value.agg #[.int .i64 0, .int .i64 0, .slice none 0 0]).cells (G - (i + 1))) 57) → W.ownsRow w.heap.size 57 3 (.slice (some ⟨w.heap.size, 0, none⟩) (i + 1) G) (i + 1) (cs.take (i * 3) ++ vs ++ cs.drop (i * 3))) := by
      refine Lib.hid fun W hW => ?_
      have e1 : cs.take (i * 3) = cs := List.take_of_length_le (by omega)
      have e2 : cs.drop (i * 3) = [] := List.drop_eq_nil_of_le (by omega)
      rw [e1, e2, List.append_nil]
      refine ⟨by simp; omega, .inr ⟨w.heap.size, G, _, rfl, Nat.le_refl _, by rw [hW]; exact heap_alloc_new w.drew _, hG1, hG2, ?_, ?_⟩⟩
      · rw [Array.size_append, size_zeroCells]
        simp [Value.cells]
        omega
      · rw [Array.toList_append, List.take_append_of_le_length (by simp; omega)]
        exact List.take_of_length_le (by simp; omega)
    have HB := Lib.hid (show ∀ ob, Below w.heap.size w (w.drew.alloc ob) from fun ob => (Below.refl _ w).drew.alloc (Nat.le_refl _) ob)
    clear hcs hvs hcs' hvs' h1c h1v hold hsrc hG hG1 hG2
    go_enter Try.func57, Try.ntmps57
    go_wp2_with (at_builtin; refine Lib.wpList_append_run _ rfl _ _ _ _ rfl _ _ rfl rfl _ _ (hrun _) ?_)
    all_goals (go_ret; exact ⟨_, rfl, HOWN.out _ rfl, HB.out _⟩)
  · have hlt : i < n := by omega
    have hik : i + (n + 1 - i) = n + 1 := by omega
    have hkk : (n : Int) + 1 - (i : Int) = ((n + 1 - i : Nat) : Int) := by omega
    have hold : (Builtin.firstCells i0.size i (.slice (some ⟨g, 0, none⟩) i n)).run Try.prog w.drew = .ok (cs.take (i * 3)).toArray w.drew := by
      rw [hzs]
      refine run_firstCells_some w.drew 3 i ⟨g, 0, none⟩ i n (cs.take (i * 3)) (by rw [List.length_take]; omega) (fun j v hj => ?_)
      rw [List.getElem?_take] at hj
      split at hj
      · exact hcs' j v hj
      · cases hj
    have hrz : ∀ ty, (Builtin.append_ #[26, 3] ty #[.slice (some ⟨g, 0, none⟩) i n, .int .i64 ((n : Int) + 1 - (i : Int))]).run Try.prog w =
        .ok (.slice (some ⟨w.heap.size, 0, none⟩) (n + 1) (grownCap w (n + 1) n 57)) (w.drew.alloc (.cells ((cs.take (i * 3)).toArray ++ Builtin.zeroCells (Value.agg #[.int .i64 0, .int .i64 0, .slice none 0 0]).cells (n + 1 - i) ++ Builtin.zeroCells (Value.agg #[.int .i64 0, .int .i64 0, .slice none 0 0]).cells (grownCap w (n + 1) n 57 - (n + 1))) 57)) := fun ty => by
      have h := Lib.run_append_grow_zeros w 26 3 ty 57 i0 _ .i64 .i64 Try.underlying26 Try.underlying3 hi0 hz0 (some ⟨g, 0, none⟩) i n (cs.take (i * 3)) hold (n + 1 - i) (by omega) (by omega) (by omega) (by omega) (by rw [hzb]; omega) (by rw [hzb, hik]; exact growslice_fits (by omega) (by omega))
      rw [hik] at h
      rw [hkk]
      exact h
    rw [← hG] at hrz hG1 hG2
    obtain ⟨R0, hR0⟩ : ∃ R : List Value, R = (Builtin.zeroCells (Value.agg #[.int .i64 0, .int .i64 0, .slice none 0 0]).cells (n + 1 - i)).toList := ⟨_, rfl⟩
    obtain ⟨R1, hR1⟩ : ∃ R : List Value, R = (Builtin.zeroCells (Value.agg #[.int .i64 0, .int .i64 0, .slice none 0 0]).cells (G - (n + 1))).toList := ⟨_, rfl⟩
    have hR0l : R0.length = (n + 1 - i) * 3 := by rw [hR0, Array.length_toList, size_zeroCells]; simp [Value.cells]
    have hR1l : R1.length = (G - (n + 1)) * 3 := by rw [hR1, Array.length_toList, size_zeroCells]; simp [Value.cells]
    have eR : (cs.take (i * 3)).toArray ++ Builtin.zeroCells (Value.agg #[.int .i64 0, .int .i64 0, .slice none 0 0]).cells (n + 1 - i) ++ Builtin.zeroCells (Value.agg #[.int .i64 0, .int .i64 0, .slice none 0 0]).cells (G - (n + 1)) = (cs.take (i * 3) ++ (R0 ++ R1)).toArray := by
      rw [hR0, hR1]; apply Array.toList_inj.1; simp
    rw [eR] at hrz
    clear hR0 hR1 eR
    obtain ⟨X, hX⟩ : ∃ X, X = cs.take (i * 3) := ⟨_, rfl⟩
    obtain ⟨Y, hY⟩ : ∃ Y, Y = cs.drop (i * 3) := ⟨_, rfl⟩
    have hXl : X.length = i * 3 := by rw [hX, List.length_take]; omega
    have hYl : Y.length = (n - i) * 3 := by rw [hY, List.length_drop]; omega
    have hYs : ∀ (j : Nat) (u : Value), Y[j]? = some u → w.cell? ((⟨g, i * 3, none⟩ : Addr).add j) = some u := fun j u hj => by
      rw [add_at]
      rw [hY, List.getElem?_drop] at hj
      exact hcs _ u hj
    have h1y : ∀ u ∈ Y, u.oneCell' = true := fun u hu => h1c u (by rw [hY] at hu; exact List.mem_of_mem_drop hu)
    rw [← hX, ← hY]
    rw [← hX] at hrz
    obtain ⟨W1, hW1⟩ : ∃ W1, W1 = w.drew.alloc (.cells (X ++ (R0 ++ R1)).toArray 57) := ⟨_, rfl⟩
    rw [← hW1] at hrz
    have hN : W1.heap[w.heap.size]? = some (.cells (X ++ (R0 ++ R1)).toArray 57 (0, 0)) := by rw [hW1]; exact heap_alloc_new w.drew _
    have hB1 : Below w.heap.size w W1 := by rw [hW1]; exact (Below.refl _ w).drew.alloc (Nat.le_refl _) _
    have hsz : (Try.prog.info? 57).map (·.size) = some 3 := by rw [hi0]; simp [hzs]
    have hcpA : ∀ ty dc, (Builtin.copy_ #[26, 26] ty #[.slice (some ⟨w.heap.size, i * 3, none⟩) (n + 1 - i) dc, .slice (some ⟨vb, 0, none⟩) 1 1]).run Try.prog W1 = .ok (goInt 1) (W1.setRow w.heap.size ((X ++ (R0 ++ R1)).take (i * 3) ++ vs ++ (X ++ (R0 ++ R1)).drop (i * 3 + vs.length)).toArray) := fun ty dc => by
      have h := run_copy_rowN (P := Try.prog) W1 26 26 ty 57 w.heap.size (i * 3) (n + 1 - i) dc ⟨vb, 0, none⟩ 1 1 3 1 _ _ vs Try.underlying26 hsz hN (by simp only [Nat.min_def]; split <;> omega) (by omega)
        (fun j u hj => by rw [add_at, hB1.cell (p := ⟨vb, 0 + j, none⟩) hvw]; simpa using hvs j u hj) (by simp; omega) h1v
      simpa using h
    obtain ⟨Z, hZ⟩ : ∃ Z, Z = (X ++ (R0 ++ R1)).take (i * 3) ++ vs ++ (X ++ (R0 ++ R1)).drop (i * 3 + vs.length) := ⟨_, rfl⟩
    have hZl : Z.length = (G) * 3 := by rw [hZ]; simp; omega
    rw [← hZ] at hcpA
    obtain ⟨W2, hW2⟩ : ∃ W2, W2 = W1.setRow w.heap.size Z.toArray := ⟨_, rfl⟩
    rw [← hW2] at hcpA
    have hN2 : W2.heap[w.heap.size]? = some (.cells Z.toArray 57 (0, 0)) := by rw [hW2]; exact setRow_heap W1 w.heap.size _ _ _ _ hN
    have hB2 : Below w.heap.size w W2 := by rw [hW2]; exact below_setRow hB1 (Nat.le_refl _) _
    have hcpB : ∀ ty dc sc, (Builtin.copy_ #[26, 26] ty #[.slice (some ⟨w.heap.size, (i + 1) * 3, none⟩) (n + 1 - (i + 1)) dc, .slice (some ⟨g, i * 3, none⟩) (n - i) sc]).run Try.prog W2.drew = .ok (goInt (n - i : Nat)) (W2.drew.setRow w.heap.size (Z.take ((i + 1) * 3) ++ Y ++ Z.drop ((i + 1) * 3 + Y.length)).toArray) := fun ty dc sc => by
      have h := run_copy_rowN (P := Try.prog) W2.drew 26 26 ty 57 w.heap.size ((i + 1) * 3) (n + 1 - (i + 1)) dc ⟨g, i * 3, none⟩ (n - i) sc 3 (n - i) Z.toArray 57 Y Try.underlying26 hsz hN2 (by simp only [Nat.min_def]; split <;> omega) hYl
        (fun j u hj => (hB2.cell (p := (⟨g, i * 3, none⟩ : Addr).add j) (by rw [add_at]; exact hgl)).trans (hYs j u hj)) (by rw [List.size_toArray]; omega) h1y
      simpa using h
    obtain ⟨W3, hW3⟩ : ∃ W3, W3 = W2.drew.setRow w.heap.size (Z.take ((i + 1) * 3) ++ Y ++ Z.drop ((i + 1) * 3 + Y.length)).toArray := ⟨_, rfl⟩
    rw [← hW3] at hcpB
    have HE := Lib.hid (show PutRow (X ++ vs ++ Y) (n + 1) w (.returned (.slice (some ⟨w.heap.size, 0, none⟩) (n + 1) G)) W3 from by
      refine ⟨_, rfl, ⟨by simp; omega, .inr ⟨w.heap.size, G, _, rfl, Nat.le_refl _, by rw [hW3]; exact setRow_heap W2.drew w.heap.size _ _ _ _ hN2, hG1, hG2, ?_, ?_⟩⟩, by rw [hW3]; exact below_setRow hB2.drew (Nat.le_refl _) _⟩
      · simp; omega
      · have e := put_in X Y vs R0 R1 (i * 3) 3 hXl hvl (by omega)
        rw [← hZ, show i * 3 + 3 = (i + 1) * 3 by omega] at e
        rw [e]
        rw [List.take_append_of_le_length (by simp; omega)]
        exact List.take_of_length_le (by simp; omega))
    have hw1 : IntKind.i64.wrap ((i : Int) + 1) = (i : Int) + 1 := by rw [IntKind.wrap_i64]; omega
    have hbp1 : (0 : Int) ≤ (i : Int) + 1 := by omega
    rw [show n + 1 - (i + 1) = n - i by omega] at hcpB
    rw [List.append_assoc] at HE ⊢
    have hGi : ¬ (G = i) := by omega
    have hGim : ¬ (G = i + 1) := by omega
    have hm63 : G ≤ 9223372036854775807 := by unfold maxLen at hG2; omega
    have hni : ¬ (n = i) := by omega
    have hne : ((i : Int) == (n : Int)) = false := by simp; omega
    have htn : ((i : Int) + 1).toNat = i + 1 := by omega
    have hb3 : (i : Int) ≤ (n : Int) := by omega
    clear hcs hvs hcs' hvs' h1c h1v hold hG hG1 hG2 hX hY hYs h1y hW1 hN hB1 hsz hZ hZl hW2 hN2 hB2 hW3 hkk hik hR0l hR1l hXl hYl hi0 hz0 hzs hzb
    go_enter Try.func57, Try.ntmps57
    go_wp2_with (first
      | (at_builtin; refine Lib.wpList_append_run _ rfl _ _ _ _ rfl _ _ rfl rfl _ _ (hrz _) ?_)
      | (at_builtin; refine wpList_copy_run _ rfl _ _ 26 26 rfl _ _ rfl rfl (hcpA _ _) ?_))
    go_region_law (refine step_copy_run rfl _ _ 26 26 rfl (.slice (some ⟨w.heap.size, (i + 1) * 3, none⟩) (n - i) (G - (i + 1))) (.slice (some ⟨g, i * 3, none⟩) (n - i) (n - i)) (by simp [Act.eval, Act.put]) (by simp [Act.eval, Act.put]) (hcpB _ _ _) ?_)
    go_wp2
    go_ret
    exact HE.out
end Go.Proofs.Ytjkbjbikofindaa
