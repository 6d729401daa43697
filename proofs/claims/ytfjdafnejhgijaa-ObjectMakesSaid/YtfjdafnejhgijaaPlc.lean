/-
  Contracts of the reference of layer 8: Fields, Place, get, set and the exported functions.
-/
import Derived.Test.YtfjdafnejhgijaaLook
namespace Go.Proofs.Ytfjdafnejhgijaa
open Go.RowKit
set_option maxRecDepth 100000
set_option linter.unusedVariables false

/-- The first j of a row of numbers, as values. -/
def intL (f : Nat → Int) (j : Nat) : List Value := (List.range j).map fun i => .int .i64 (f i)
theorem intL_succ (f : Nat → Int) (j : Nat) : intL f (j + 1) = intL f j ++ [.int .i64 (f j)] := by simp [intL, List.range_succ]
theorem intL_numL (f : Nat → Int) (R : Nat) (h : ∀ i, i < R → 0 ≤ f i) : intL f R = numL ((List.range R).map fun i => (f i).toNat) := by
  simp only [intL, numL, List.map_map]
  refine List.map_congr_left fun i hi => ?_
  have := h i (by simpa using hi)
  simp only [Function.comp]
  congr 1
  omega
theorem ownsRow_below8 {w w' : World} {B s n : Nat} {e : TypeId} {v : Value} {xs : List Value} (h : w.ownsRow B e s v n xs) (hb : Below w.heap.size w w') : w'.ownsRow B e s v n xs := by
  obtain ⟨hl, h⟩ := h
  refine ⟨hl, ?_⟩
  rcases h with h | ⟨g, cap, cur, rfl, hB, hg, h⟩
  · exact .inl h
  · exact .inr ⟨g, cap, cur, rfl, hB, (hb.block g (blk_lt hg)).trans hg, h⟩
theorem slt_row {w : World} {B R : Nat} {v : Value} {f : Nat → Int} (h : w.ownsRow B 3 1 v R (intL f R)) (hf : ∀ i, i < R → 0 ≤ f i) :
    ∃ A c, v = .slice A R c ∧ Nums w w.heap.size A R c (numF ((List.range R).map fun i => (f i).toNat)) := by
  rw [intL_numL f R hf] at h
  obtain ⟨A, c, rfl, hn, _⟩ := nums_of_row h
  exact ⟨A, c, rfl, hn⟩

set_option maxHeartbeats 2000000 in
theorem refFields_any (K : Nat) (A A' : Option Addr) (nw c n c' : Nat) (wd : Nat → Int) (F : Nat → Fr) (a : Int) (w : World) (hA : Arr w w.heap.size A nw c wd) (hT : Tab w w.heap.size A' n c' F) (hv : ValidP K nw wd n F) (hu : U64w nw wd) :
    Calls Try.prog 51 #[.agg #[.int .i64 K, .slice A nw c, .slice A' n c'], .int .i64 a] w (GivesLst (sltL K nw wd n F a) (shpE K nw wd n F a) w) := by
  obtain ⟨i0, hi0, hz0, hz1, hz2⟩ := info_parts int_info
  obtain ⟨U, hU⟩ : ∃ U, U = w.alloc (.cells #[.int .i64 K, .slice A nw c, .slice A' n c'] 25) := ⟨_, rfl⟩
  have BU : Blk U w.heap.size 25 #[.int .i64 K, .slice A nw c, .slice A' n c'] := by rw [hU]; exact Blk.new _ _ _
  have HBU : Hid (Below w.heap.size w U) := by rw [hU]; exact (Below.refl _ _).alloc (Nat.le_refl _) _
  have HU := Lib.hid hU
  have HA := Lib.hid (hA.next HBU.out)
  have HT := Lib.hid (hT.next HBU.out)
  have HV := Lib.hid hv
  have g1 := refLook_any K A A' nw c n c' wd F a U HA.out HT.out hv hu
  have hr := shp_range (s := K) (n := n) (F := F) (a := a) hu
  have p0 := BU.cell 0
  have p1 := BU.cell 1
  have p2 := BU.cell 2
  have pz := BU.lt
  simp at p0 p1 p2
  clear hA hT hU hv
  have hz : shpE K nw wd n F a ≠ 0 → sltL K nw wd n F a = [] := fun h => by
    unfold sltL shpR
    rw [if_neg h]
    rfl
  by_cases h0 : shpE K nw wd n F a = 0
  · have hst : ∀ i : Nat, (i : Int) < shpR K nw wd n F a → stpE K nw wd n F a (1 + (i : Int)) = 0 := fun i hi => (fld_step (t := true) hu h0 (by omega) hi).1
    obtain ⟨R, hR⟩ : ∃ R : Nat, shpR K nw wd n F a = R := ⟨(shpR K nw wd n F a).toNat, by omega⟩
    obtain ⟨D, hD⟩ : ∃ D, D = shpD K nw wd n F a := ⟨_, rfl⟩
    rw [hR] at hst hr
    obtain ⟨f, hf⟩ : ∃ f : Nat → Int, f = fun (i : Nat) => stpV K nw wd n F a (1 + (i : Int)) := ⟨_, rfl⟩
    have hfn : ∀ i, i < R → 0 ≤ f i := fun i hi => by
      obtain ⟨P, hP, _⟩ := stp_nat (hst i (by omega))
      rw [hf]
      show 0 ≤ stpV K nw wd n F a (1 + (i : Int))
      omega
    have hsl : sltL K nw wd n F a = (List.range R).map fun i => (f i).toNat := by
      unfold sltL; rw [hR, Int.toNat_natCast, hf]
    rw [h0, hR, ← hD] at g1
    rw [h0, hsl]
    have GO : ∀ i : Nat, i < R → ∀ W, Below U.heap.size U W → Calls Try.prog 73 #[.agg #[.int .i64 K, .slice A nw c, .slice A' n c'], .int .i64 a, .int .i64 (1 + (i : Int))] W (Gives2 (f i) 0 W) := fun i hi W hW => by
      have h := refGo5_any K A A' nw c n c' wd F a (1 + (i : Int)) W (HT.out.next hW) HV.out (by omega) (by omega)
      rw [hst i (by omega)] at h
      rw [hf]
      exact h
    have HGO := Lib.hid GO
    have HFN := Lib.hid hfn
    have hR15 : R ≤ 15 := by omega
    clear hst hR hD hf hfn hsl hr GO h0 hz
    go_enter Try.func51, Try.ntmps51
    go_wp2_with fail
    rw [← HU.out]
    refine g1.mono ?_
    rintro e U1 ⟨rfl, hb1⟩
    have BU1 := BU.next hb1
    have HB1 := Lib.hid hb1
    have q0 := BU1.cell 0
    have q1 := BU1.cell 1
    have q2 := BU1.cell 2
    have qz := BU1.lt
    simp at q0 q1 q2
    clear hb1 p0 p1 p2 g1
    go_wp2_with fail
    clear q0 q1 q2 qz
    go_loopw [9, 10, 11, 12] (fun v i _ _ wr => ∃ j : Nat, j ≤ R ∧ i = .int .i64 j ∧ wr.ownsRow U1.heap.size 3 1 v j (intL f j) ∧ Below U1.heap.size U1 wr ∧ (∃ A c, v = .slice A j c)) (fun _ i _ _ _ => R - (intOf i).toNat)
    case atStart => exact ⟨0, by omega, rfl, World.ownsRow_nil _ _ _ _, Below.refl _ _, none, 0, rfl⟩
    case round =>
      obtain ⟨j, hj, rfl, hown, hb, A2, c2, rfl⟩ := hrel
      have BR := BU1.next hb
      have HO := Lib.hid hown
      have HB := Lib.hid hb
      have HBR := Lib.hid (below_next HB1.out (Nat.le_refl _) hb)
      clear hown hb
      by_cases hlt : j < R
      · have q0 := BR.cell 0
        have q1 := BR.cell 1
        have q2 := BR.cell 2
        have qz := BR.lt
        simp at q0 q1 q2
        have G2 := HGO.out j hlt wr HBR.out
        have hlt2 : (j : Int) < R := by omega
        go_wp2_with fail
        refine G2.mono ?_
        rintro e W1 ⟨rfl, hb1⟩
        have HO1 := Lib.hid (ownsRow_below8 HO.out hb1)
        have HBB := Lib.hid (below_next HB.out (Nat.le_refl _) hb1)
        have hob := row_block HO1.out
        have zz : U1.heap.size ≤ W1.heap.size := HBB.out.size
        obtain ⟨y, hy⟩ : ∃ y, y = f j := ⟨_, rfl⟩
        rw [← hy]
        have HY := Lib.hid hy
        clear hb1 q0 q1 q2 qz G2 hy
        go_wp2_with (at_builtin; refine wpList_append_own _ rfl _ _ 26 rfl U1.heap.size 3 i0 (.int .i64 0) 1 8 Try.underlying26 hi0 hz0 hz1 hz2 rfl (by decide) _ j (intL f j) rfl (HO1.out.alloc _) ⟨W1.heap.size, 0, none⟩ 1 1 [.int .i64 y] rfl rfl ?c1 (by simp [Value.oneCell']) (by simp only [maxLen]; omega) (by omega) ?c5 ?_)
        case c1 => exact one_news (by go_simp)
        case c5 => simp; omega
        intro v' w1 hown' hgrow _
        obtain ⟨A1, c1', rfl, _⟩ := row_slice hown'
        have hb1' : Below U1.heap.size U1 w1 := (HBB.out.alloc HBB.out.size _).grown hgrow (by simp; omega) hob
        have HN : Hid (w1.ownsRow U1.heap.size 3 1 (.slice A1 (j + 1) c1') (j + 1) (intL f (j + 1))) := by rw [intL_succ, ← HY.out]; exact hown'
        have HBN := Lib.hid hb1'
        clear hown' hgrow hob hb1'
        go_wp2
        exact ⟨⟨j + 1, by omega, by go_num, HN.out, HBN.out, A1, c1', rfl⟩, by simp [intOf]; omega⟩
      · obtain rfl : j = R := by omega
        have hlt2 : ¬ (j : Int) < j := by omega
        obtain ⟨A3, c3, e3, hn3⟩ := slt_row HO.out HFN.out
        injection e3 with e3 _ e4
        subst e3 e4
        have HN3 := Lib.hid hn3
        clear hn3
        go_wp2
        go_ret2
        have el : ((List.range j).map fun i => (f i).toNat).length = j := by simp
        exact ⟨A2, c2, (by rw [el]; rfl), by rw [el]; exact HN3.out, below_next HBU.out (Nat.le_refl _) HBR.out⟩
  · rw [hz h0]
    obtain ⟨y, hy⟩ : ∃ y, y = shpE K nw wd n F a := ⟨_, rfl⟩
    obtain ⟨x, hx⟩ : ∃ x, x = shpR K nw wd n F a := ⟨_, rfl⟩
    obtain ⟨z, hz'⟩ : ∃ z, z = shpD K nw wd n F a := ⟨_, rfl⟩
    rw [← hy, ← hx, ← hz'] at g1
    rw [← hy] at h0 ⊢
    have hne : (y != 0) = true := by simpa using h0
    clear hy hx hz' hz h0 hr
    go_enter Try.func51, Try.ntmps51
    go_wp2_with fail
    rw [← HU.out]
    refine g1.mono ?_
    rintro e U1 ⟨rfl, hb1⟩
    go_wp2_with fail
    go_ret2
    exact gives_none (below_next HBU.out (Nat.le_refl _) hb1)

set_option maxHeartbeats 2000000 in
theorem refPlace_any (K : Nat) (A A' : Option Addr) (nw c n c' : Nat) (wd : Nat → Int) (F : Nat → Fr) (a i : Int) (t : Bool) (w : World) (hA : Arr w w.heap.size A nw c wd) (hT : Tab w w.heap.size A' n c' F) (hv : ValidP K nw wd n F) (hu : U64w nw wd) :
    Calls Try.prog 77 #[.agg #[.int .i64 K, .slice A nw c, .slice A' n c'], .int .i64 a, .int .i64 i, .bool t] w (Gives2 (plcV K nw wd n F a i t) (plcE K nw wd n F a i t) w) := by
  obtain ⟨U, hU⟩ : ∃ U, U = w.alloc (.cells #[.int .i64 K, .slice A nw c, .slice A' n c'] 25) := ⟨_, rfl⟩
  have BU : Blk U w.heap.size 25 #[.int .i64 K, .slice A nw c, .slice A' n c'] := by rw [hU]; exact Blk.new _ _ _
  have HBU : Hid (Below w.heap.size w U) := by rw [hU]; exact (Below.refl _ _).alloc (Nat.le_refl _) _
  have HU := Lib.hid hU
  have HA := Lib.hid (hA.next HBU.out)
  have HT := Lib.hid (hT.next HBU.out)
  have HV := Lib.hid hv
  have g1 := refLook_any K A A' nw c n c' wd F a U HA.out HT.out hv hu
  have hr := shp_range (s := K) (n := n) (F := F) (a := a) hu
  have p0 := BU.cell 0
  have p1 := BU.cell 1
  have p2 := BU.cell 2
  have pz := BU.lt
  simp at p0 p1 p2
  clear hA hT hU hv
  by_cases h0 : shpE K nw wd n F a = 0
  · by_cases hi : i < 0 ∨ fldN K nw wd n F a t ≤ i
    · obtain ⟨e1, e2⟩ := plc_out h0 hi
      rw [e1, e2]
      rw [h0] at g1
      obtain ⟨R, hR⟩ : ∃ R, R = shpR K nw wd n F a := ⟨_, rfl⟩
      obtain ⟨D, hD⟩ : ∃ D, D = shpD K nw wd n F a := ⟨_, rfl⟩
      unfold fldN at hi
      rw [← hR, ← hD] at hi hr g1
      clear e1 e2 hR hD h0
      by_cases hi0 : i < 0
      · clear hi
        cases t
        all_goals
          go_enter Try.func77, Try.ntmps77
          go_wp2_with fail
          rw [← HU.out]
          refine g1.mono ?_
          rintro e U1 ⟨rfl, hb1⟩
          have HB1 := Lib.hid (below_next HBU.out (Nat.le_refl _) hb1)
          clear hb1
          go_wp2_with fail
          go_ret2
          exact ⟨rfl, HB1.out⟩
      · have hi2 := hi.resolve_left hi0
        clear hi
        cases t
        all_goals
          simp only [Bool.false_eq_true, if_false, if_true] at hi2
          go_enter Try.func77, Try.ntmps77
          go_wp2_with fail
          rw [← HU.out]
          refine g1.mono ?_
          rintro e U1 ⟨rfl, hb1⟩
          have HB1 := Lib.hid (below_next HBU.out (Nat.le_refl _) hb1)
          clear hb1
          go_wp2_with fail
          go_ret2
          exact ⟨rfl, HB1.out⟩
    · have hi0 : 0 ≤ i := by
        rcases Int.lt_or_le i 0 with h | h
        · exact absurd (.inl h) hi
        · exact h
      have hi1 : i < fldN K nw wd n F a t := by
        rcases Int.lt_or_le i (fldN K nw wd n F a t) with h | h
        · exact h
        · exact absurd (.inr h) hi
      obtain ⟨e1, e2⟩ := plc_ok h0 hi0 hi1
      obtain ⟨hst, hk1, hk2, hk3⟩ := fld_step (i := i) (t := t) hu h0 hi0 hi1
      have GO : ∀ W, Below U.heap.size U W → Calls Try.prog 73 #[.agg #[.int .i64 K, .slice A nw c, .slice A' n c'], .int .i64 a, .int .i64 (fldK K nw wd n F a i t)] W (Gives2 (stpV K nw wd n F a (fldK K nw wd n F a i t)) 0 W) := fun W hW => by
        have h := refGo5_any K A A' nw c n c' wd F a (fldK K nw wd n F a i t) W (HT.out.next hW) HV.out (by omega) (by omega)
        rw [hst] at h
        exact h
      rw [e1, e2]
      rw [h0] at g1
      obtain ⟨v, hv⟩ : ∃ v, v = stpV K nw wd n F a (fldK K nw wd n F a i t) := ⟨_, rfl⟩
      rw [← hv] at GO ⊢
      obtain ⟨R, hR⟩ : ∃ R, R = shpR K nw wd n F a := ⟨_, rfl⟩
      obtain ⟨D, hD⟩ : ∃ D, D = shpD K nw wd n F a := ⟨_, rfl⟩
      unfold fldN at hi1
      unfold fldK at GO
      rw [← hR] at GO
      rw [← hR, ← hD] at hi1 hr g1
      have HGO := Lib.hid GO
      clear e1 e2 hR hD h0 hst hk1 hk2 hk3 hi GO hv
      cases t
      all_goals
        simp only [Bool.false_eq_true, if_false, if_true] at hi1 HGO
        go_enter Try.func77, Try.ntmps77
        go_wp2_with fail
        rw [← HU.out]
        refine g1.mono ?_
        rintro e U1 ⟨rfl, hb1⟩
        have BU1 := BU.next hb1
        have HB1 := Lib.hid hb1
        have q0 := BU1.cell 0
        have q1 := BU1.cell 1
        have q2 := BU1.cell 2
        have qz := BU1.lt
        simp at q0 q1 q2
        clear hb1 p0 p1 p2
        go_wp2_with fail
        refine (HGO.out _ HB1.out).mono ?_
        rintro e U2 ⟨rfl, hb2⟩
        go_wp2_with fail
        go_ret2
        exact ⟨rfl, below_next HBU.out (Nat.le_refl _) (below_next HB1.out (Nat.le_refl _) hb2)⟩
  · obtain ⟨e1, e2⟩ := plc_bad (i := i) (t := t) h0
    rw [e1, e2]
    obtain ⟨y, hy⟩ : ∃ y, y = shpE K nw wd n F a := ⟨_, rfl⟩
    obtain ⟨R, hR⟩ : ∃ R, R = shpR K nw wd n F a := ⟨_, rfl⟩
    obtain ⟨D, hD⟩ : ∃ D, D = shpD K nw wd n F a := ⟨_, rfl⟩
    rw [← hy, ← hR, ← hD] at g1
    rw [← hy] at h0 ⊢
    have hne : (y != 0) = true := by simpa using h0
    clear hy hR hD h0 hr e1 e2
    go_enter Try.func77, Try.ntmps77
    go_wp2_with fail
    rw [← HU.out]
    refine g1.mono ?_
    rintro e U1 ⟨rfl, hb1⟩
    have HB1 := Lib.hid (below_next HBU.out (Nat.le_refl _) hb1)
    clear hb1
    go_wp2_with fail
    go_ret2
    exact ⟨rfl, HB1.out⟩
end Go.Proofs.Ytfjdafnejhgijaa
