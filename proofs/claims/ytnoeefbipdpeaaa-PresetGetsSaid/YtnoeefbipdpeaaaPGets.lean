/-
  The walk of PresetGets.
-/
import Derived.Test.YtnoeefbipdpeaaaPFact
import Derived.Deep.RegionHeld3
import Derived.Deep.RegionWith
import Derived.RegionTactic
namespace Go.Proofs.Ytnoeefbipdpeaaa
open Go.RowKit
set_option maxRecDepth 100000
set_option linter.unusedVariables false

def nameC : Array Value := #[.string (preN 0), .string (preN 1), .string (preN 2), .string (preN 3), .string (preN 4), .string (preN 5)]
theorem nameC_at {k : Nat} (hk : k < 6) : nameC[k]? = some (.string (preN k)) := by
  rcases (by omega : k = 0 ∨ k = 1 ∨ k = 2 ∨ k = 3 ∨ k = 4 ∨ k = 5) with rfl | rfl | rfl | rfl | rfl | rfl <;> rfl
theorem preN_small {j : Nat} (hj : j < 6) : (preN j).size ≤ 16 := by
  rcases (by omega : j = 0 ∨ j = 1 ∨ j = 2 ∨ j = 3 ∨ j = 4 ∨ j = 5) with rfl | rfl | rfl | rfl | rfl | rfl <;> decide
theorem three_at (a b c : ByteArray) {k : Nat} (hk : k < 3) : ∃ t, (#[.string a, .string b, .string c] : Array Value)[k]? = some (.string t) := by
  rcases (by omega : k = 0 ∨ k = 1 ∨ k = 2) with rfl | rfl | rfl <;> exact ⟨_, rfl⟩
theorem two_at (a b : Int) (P : Int → Prop) (ha : P a) (hb : P b) {k : Nat} (hk : k < 2) : ∃ t, (#[.int .i64 a, .int .i64 b] : Array Value)[k]? = some (.int .i64 t) ∧ P t := by
  rcases (by omega : k = 0 ∨ k = 1) with rfl | rfl
  · exact ⟨_, rfl, ha⟩
  · exact ⟨_, rfl, hb⟩
set_option maxHeartbeats 8000000 in
theorem walkGets (w : World) (s0 : ByteArray) (p0 k0 : Int) (l0 : -9223372036854775808 ≤ p0) (u0 : p0 ≤ 9223372036854775807) (l1 : -9223372036854775808 ≤ k0) (u1 : k0 ≤ 9223372036854775807) :
    Calls Try.prog 3 #[.string s0, .int .i64 p0, .int .i64 k0] w fun e w' => e = .returned (.bool true) ∧ Below w.heap.size w w' := by
  have hmod := fun W => mod_any p0 103 (by decide) (by decide) l0 u0 W
  have hmk : ∀ W, Calls Try.prog 8 #[.int .i64 k0, .int .i64 6] W fun e w' => e = .returned (.int .i64 (k0 % 6)) ∧ w' = W := fun W => (mod_any k0 6 (by decide) (by decide) l1 u1 W).mono fun _ _ h => ⟨h.1, h.2.symm⟩
  have hw : IntKind.i64.wrap (p0 % 103 - 1) = p0 % 103 - 1 := IntWalk.i64_in _ (by omega)
  have hq : -9223372036854775808 ≤ p0 % 103 - 1 ∧ p0 % 103 - 1 ≤ 9223372036854775807 := by omega
  obtain ⟨j, hj⟩ : ∃ j : Nat, k0 % 6 = j := Int.eq_ofNat_of_zero_le (by omega)
  have hj6 : j < 6 := by omega
  rw [hj] at hmk
  generalize p0 % 103 = q at *
  clear hj
  obtain ⟨V, hV⟩ : ∃ V, V = (w.alloc (.cells nameC 9)).alloc (.cells nameC 9) := ⟨_, rfl⟩
  have B0 := Lib.hid (show Blk V w.heap.size 9 nameC by rw [hV]; exact (Blk.new _ _ _).alloc _)
  have B1 := Lib.hid (show Blk V (w.heap.size + 1) 9 nameC by rw [hV]; exact Blk.newAt _ _ _ _ (by simp))
  have HVB := Lib.hid (show Below w.heap.size w V by rw [hV]; exact below_second w _ _)
  have HV := Lib.hid hV
  clear hV
  go_enter Try.func3, Try.ntmps3
  go_wp2_with fail
  refine (names14_any _).mono ?_
  rintro e W3 ⟨rfl, rfl⟩
  go_wp2_with fail
  refine (names_any _).mono ?_
  rintro e W3 ⟨rfl, rfl⟩
  rw [show ((w.alloc (.cells #[.string (preN 0), .string (preN 1), .string (preN 2), .string (preN 3), .string (preN 4), .string (preN 5)] 9)).alloc (.cells #[.string (preN 0), .string (preN 1), .string (preN 2), .string (preN 3), .string (preN 4), .string (preN 5)] 9)) = V from HV.out.symm]
  go_wp2_with fail
  go_loopw [27] (fun i wr => ∃ k : Nat, k ≤ 6 ∧ i = .int .i64 k ∧ Below V.heap.size V wr) (fun i _ => 6 - (intOf i).toNat)
  case atStart => exact ⟨0, Nat.zero_le _, rfl, Below.refl _ _⟩
  case round =>
    obtain ⟨k, hk, rfl, hb⟩ := hrel
    have HB := Lib.hid hb
    clear hb
    have BK0 := B0.out.next HB.out
    have BK1 := B1.out.next HB.out
    have zN : w.heap.size + 1 < wr.heap.size := BK1.lt
    by_cases hlt : k < 6
    · have hlt2 : 0 ≤ (k : Int) ∧ (k : Int) < 6 := by omega
      have c0 := BK0.cell k
      have c1 := BK1.cell k
      rw [nameC_at hlt] at c0 c1
      clear BK0 BK1
      go_upto_region 7 with fail
      go_quiet (fail)
      go_wp2_with fail
      exact ⟨⟨k + 1, by omega, by go_num, below_drewN HB.out _⟩, by simp [intOf]; omega⟩
    · have e6 : k = 6 := by omega
      subst e6
      have c1 := BK1.cell j
      rw [nameC_at hj6] at c1
      have hj2 : 0 ≤ (j : Int) ∧ (j : Int) < 6 := by omega
      go_upto_region 10 with fail
      have hcat : ∀ W, (Op.stringOp .add (preN j) { data := #[32] }).run Try.prog W = .ok (.string (preN j ++ { data := #[32] })) W := fun W => run_string_add_sum W (preN j) { data := #[32] } (by have := preN_small hj6; have h1 : ({ data := #[32] } : ByteArray).size = 1 := rfl; omega)
      refine wp_region_held_drew (S := (fun w' => w'.cell? ⟨w.heap.size + 1, j, none⟩ = some (.string (preN j)))) (by kernel_rfl) ?_ (fun hHeld => ?_)
      · exact c1
      (refine wpAnyH_take (i := 0) (v := ?_) rfl (by kernel_rfl) (by kernel_rfl) (by kernel_rfl) (fun _ _ _ h => h) (Or.inl ⟨by rfl, ?_⟩) (by assumption) ?_; rotate_left 1; (focus (intro w' hSw; (try dsimp only at hSw); go_simp; (try with_reducible rfl); done)); try simp only [Act.put, List.setIfInBounds_toArray, List.set_cons_zero, List.set_cons_succ, List.getElem_toArray, List.getElem_cons_zero])
      (refine wpAnyH_take (i := 1) (v := ?_) rfl (by kernel_rfl) (by kernel_rfl) (by kernel_rfl) (fun _ _ _ h => h) (Or.inl ⟨by rfl, ?_⟩) (by assumption) ?_; rotate_left 1; (focus (intro w' hSw; (try dsimp only at hSw); go_simp; (try with_reducible rfl); done)); try simp only [Act.put, List.setIfInBounds_toArray, List.set_cons_zero, List.set_cons_succ, List.getElem_toArray, List.getElem_cons_zero, List.getElem_cons_succ])
      (refine wpAnyH_take (i := 2) (v := ?_) rfl (by kernel_rfl) (by kernel_rfl) (by kernel_rfl) (fun _ _ _ h => h) (Or.inl ⟨by rfl, ?_⟩) (by assumption) ?_; rotate_left 1; (focus (intro w' hSw; (try dsimp only at hSw); go_simp; (try with_reducible rfl); done)); try simp only [Act.put, List.setIfInBounds_toArray, List.set_cons_zero, List.set_cons_succ, List.getElem_toArray, List.getElem_cons_zero, List.getElem_cons_succ])
      (refine wpAnyH_take (i := 6) (v := ?_) rfl (by kernel_rfl) (by kernel_rfl) (by kernel_rfl) (fun _ _ _ h => h) (Or.inl ⟨by rfl, ?_⟩) (by assumption) ?_; rotate_left 1; (focus (intro w' hSw; (try dsimp only at hSw); go_simp; (try with_reducible rfl); done)); try simp only [Act.put, List.setIfInBounds_toArray, List.set_cons_zero, List.set_cons_succ, List.getElem_toArray, List.getElem_cons_zero, List.getElem_cons_succ])
      (refine wpAnyH_take (i := 7) (v := ?_) rfl (by kernel_rfl) (by kernel_rfl) (by kernel_rfl) (fun _ _ _ h => h) (Or.inl ⟨by rfl, ?_⟩) (by assumption) ?_; rotate_left 1; (focus (intro w' hSw; (try dsimp only at hSw); go_simp; (try with_reducible rfl); done)); try simp only [Act.put, List.setIfInBounds_toArray, List.set_cons_zero, List.set_cons_succ, List.getElem_toArray, List.getElem_cons_zero, List.getElem_cons_succ])
      (refine wpAnyH_take (i := 14) (v := ?_) rfl (by kernel_rfl) (by kernel_rfl) (by kernel_rfl) (fun _ _ _ h => h) (Or.inl ⟨by rfl, ?_⟩) (by assumption) ?_; rotate_left 1; (focus (intro w' hSw; (try dsimp only at hSw); go_simp; (try with_reducible rfl); done)); try simp only [Act.put, List.setIfInBounds_toArray, List.set_cons_zero, List.set_cons_succ, List.getElem_toArray, List.getElem_cons_zero, List.getElem_cons_succ])
      refine wpAnyH_ready (rs := [3]) (by kernel_rfl) (by simp) ?_
      refine AllReadyH.cons rfl (fun K hK => ?_) AllReadyH.nil
      go_simp
      go_at_call 8
      refine (hmk _).mono ?_
      rintro e Wx ⟨rfl, rfl⟩
      go_wp2_with fail
      refine hK.out _ _ hHeld (fun hHeld2 => ?_)
      clear hK K hHeld
      have hHeld := hHeld2
      clear hHeld2
      try simp only [Act.put, List.setIfInBounds_toArray, List.set_cons_zero, List.set_cons_succ, List.getElem_toArray, List.getElem_cons_zero, List.getElem_cons_succ]
      (refine wpAnyH_take (i := 4) (v := ?_) rfl (by kernel_rfl) (by kernel_rfl) (by kernel_rfl) (fun _ _ _ h => h) (Or.inl ⟨by rfl, ?_⟩) (by assumption) ?_; rotate_left 1; (focus (intro w' hSw; (try dsimp only at hSw); go_simp; (try with_reducible rfl); done)); try simp only [Act.put, List.setIfInBounds_toArray, List.set_cons_zero, List.set_cons_succ, List.getElem_toArray, List.getElem_cons_zero, List.getElem_cons_succ])
      (refine wpAnyH_take (i := 5) (v := ?_) rfl (by kernel_rfl) (by kernel_rfl) (by kernel_rfl) (fun _ _ _ h => h) (Or.inl ⟨by rfl, ?_⟩) (by assumption) ?_; rotate_left 1; (focus (intro w' hSw; (try dsimp only at hSw); go_simp; (try with_reducible rfl); done)); try simp only [Act.put, List.setIfInBounds_toArray, List.set_cons_zero, List.set_cons_succ, List.getElem_toArray, List.getElem_cons_zero, List.getElem_cons_succ])
      refine wpAnyH_ready (rs := [8]) (by kernel_rfl) (by simp) ?_
      refine AllReadyH.cons rfl (fun K hK => ?_) AllReadyH.nil
      go_simp
      go_at_call 8
      refine (hmk _).mono ?_
      rintro e Wx ⟨rfl, rfl⟩
      go_wp2_with fail
      refine hK.out _ _ hHeld (fun hHeld2 => ?_)
      clear hK K hHeld
      have hHeld := hHeld2
      clear hHeld2
      try simp only [Act.put, List.setIfInBounds_toArray, List.set_cons_zero, List.set_cons_succ, List.getElem_toArray, List.getElem_cons_zero, List.getElem_cons_succ]
      (refine wpAnyH_take (i := 9) (v := ?_) rfl (by kernel_rfl) (by kernel_rfl) (by kernel_rfl) (fun _ _ _ h => h) (Or.inl ⟨by rfl, ?_⟩) (by assumption) ?_; rotate_left 1; (focus (intro w' hSw; (try dsimp only at hSw); go_simp; (try with_reducible rfl); done)); try simp only [Act.put, List.setIfInBounds_toArray, List.set_cons_zero, List.set_cons_succ, List.getElem_toArray, List.getElem_cons_zero, List.getElem_cons_succ])
      (refine wpAnyH_take (i := 10) (v := ?_) rfl (by kernel_rfl) (by kernel_rfl) (by kernel_rfl) (fun _ _ _ h => h) (Or.inl ⟨by rfl, ?_⟩) (by assumption) ?_; rotate_left 1; (focus (intro w' hSw; (try dsimp only at hSw); go_simp; (try with_reducible rfl); done)); try simp only [Act.put, List.setIfInBounds_toArray, List.set_cons_zero, List.set_cons_succ, List.getElem_toArray, List.getElem_cons_zero, List.getElem_cons_succ])
      (refine wpAnyH_take (i := 11) (v := ?_) rfl (by kernel_rfl) (by kernel_rfl) (by kernel_rfl) (fun _ _ _ h => h) (Or.inl ⟨by rfl, ?_⟩) (by assumption) ?_; rotate_left 1; (focus (intro w' hSw; (try dsimp only at hSw); go_simp; (try with_reducible rfl); done)); try simp only [Act.put, List.setIfInBounds_toArray, List.set_cons_zero, List.set_cons_succ, List.getElem_toArray, List.getElem_cons_zero, List.getElem_cons_succ])
      refine wpAnyH_ready (rs := [12]) (by kernel_rfl) (by simp) ?_
      refine AllReadyH.cons rfl (fun K hK => ?_) AllReadyH.nil
      go_simp
      obtain ⟨U2, hU2⟩ : ∃ U, U = (wr.alloc (.cells #[.string s0, .string (preN j), .string (preN j ++ { data := #[32] })] 9)).drew := ⟨_, rfl⟩
      rw [← hU2]
      have bU2 : Below wr.heap.size wr U2 := by rw [hU2]; exact ((Below.refl _ _).alloc (Nat.le_refl _) _).drew
      have BU2 : Blk U2 wr.heap.size 9 #[.string s0, .string (preN j), .string (preN j ++ { data := #[32] })] := by rw [hU2]; exact Blk.new wr _ _
      clear hU2
      refine hK.out _ _ ((bU2.cell (p := ⟨_, j, none⟩) zN).trans hHeld) (fun hHeld2 => ?_)
      clear hK K hHeld
      have hHeld := hHeld2
      clear hHeld2
      try simp only [Act.put, List.setIfInBounds_toArray, List.set_cons_zero, List.set_cons_succ, List.getElem_toArray, List.getElem_cons_zero, List.getElem_cons_succ]
      (refine wpAnyH_take (i := 13) (v := ?_) rfl (by kernel_rfl) (by kernel_rfl) (by kernel_rfl) (fun _ _ _ h => h) (Or.inl ⟨by rfl, ?_⟩) (by assumption) ?_; rotate_left 1; (focus (intro w' hSw; (try dsimp only at hSw); go_simp; (try with_reducible rfl); done)); try simp only [Act.put, List.setIfInBounds_toArray, List.set_cons_zero, List.set_cons_succ, List.getElem_toArray, List.getElem_cons_zero, List.getElem_cons_succ])
      refine wpAnyH_done (by kernel_rfl) ?_ _
      clear hHeld
      have HB2 := Lib.hid (below_step HB.out HB.out.size bU2)
      have B2 := Lib.hid BU2
      clear hcat bU2 BU2 HB c1 BK0 BK1 hlt zN
      go_wp2_with fail
      generalize preN j ++ { data := #[32] } = s2 at *
      generalize preN j = s1 at *
      go_loopw [54] (fun i wr => ∃ k : Nat, k ≤ 3 ∧ i = .int .i64 k ∧ Below U2.heap.size U2 wr) (fun i _ => 3 - (intOf i).toNat)
      case atStart => exact ⟨0, Nat.zero_le _, rfl, Below.refl _ _⟩
      case round =>
        obtain ⟨k, hk, rfl, hb⟩ := hrel
        have HB3 := Lib.hid hb
        clear hb
        by_cases hlt : k < 3
        · have hlt2 : 0 ≤ (k : Int) ∧ (k : Int) < 3 := by omega
          have BK2 := B2.out.next HB3.out
          have c2 := BK2.cell k
          have zN2 := BK2.lt
          obtain ⟨t, ht⟩ := three_at s0 s1 s2 hlt
          rw [ht] at c2
          clear ht BK2
          obtain ⟨U4, hU4⟩ : ∃ U, U = wr.alloc (.cells #[.int .i64 p0, .int .i64 (q - 1)] 3) := ⟨_, rfl⟩
          have B4 := Lib.hid (show Blk U4 wr.heap.size 3 #[.int .i64 p0, .int .i64 (q - 1)] by rw [hU4]; exact Blk.new _ _ _)
          have HB4 := Lib.hid (below_step HB3.out HB3.out.size (show Below wr.heap.size wr U4 by rw [hU4]; exact (Below.refl _ _).alloc (Nat.le_refl _) _))
          have HU4 := Lib.hid hU4
          clear hU4
          go_wp2_with fail
          refine (hmod _).mono ?_
          rintro e W1 ⟨rfl, rfl⟩
          go_wp2_with fail
          rw [← HU4.out]
          go_loopw [64] (fun i wr => ∃ m : Nat, m ≤ 2 ∧ i = .int .i64 m ∧ Below U4.heap.size U4 wr) (fun i _ => 2 - (intOf i).toNat)
          case atStart => exact ⟨0, Nat.zero_le _, rfl, Below.refl _ _⟩
          case round =>
            obtain ⟨m, hm, rfl, hb⟩ := hrel
            have HB5 := Lib.hid hb
            clear hb
            by_cases hmt : m < 2
            · have hmt2 : 0 ≤ (m : Int) ∧ (m : Int) < 2 := by omega
              have BK4 := B4.out.next HB5.out
              have c4 := BK4.cell m
              have zN4 := BK4.lt
              obtain ⟨p, hp, hpl, hpu⟩ := two_at p0 (q - 1) (fun t => -9223372036854775808 ≤ t ∧ t ≤ 9223372036854775807) ⟨l0, u0⟩ hq hmt
              rw [hp] at c4
              clear hp BK4
              have hg1 := fun W => get14_any t p hpl hpu W
              have hg2 := fun W => refGet_any t p hpl hpu W
              unfold GetOf at hg1 hg2
              generalize gN t p = nm at *
              generalize gR t p = R at *
              generalize gF t p = fu at *
              generalize gE t p = er at *
              go_wp2_with fail
              refine (hg1 _).mono ?_
              rintro e W1 ⟨v, rfl, hv, hb1⟩
              obtain ⟨A, c, rfl, hra⟩ := hv.slice
              obtain ⟨X1, hX1⟩ : ∃ X, X = W1.alloc (.cells #[.string nm, .slice A R.length c, .int .i64 fu] 28) := ⟨_, rfl⟩
              have bX1 : Below W1.heap.size W1 X1 := by rw [hX1]; exact (Below.refl _ _).alloc (Nat.le_refl _) _
              have BX1 : Blk X1 W1.heap.size 28 #[.string nm, .slice A R.length c, .int .i64 fu] := by rw [hX1]; exact Blk.new _ _ _
              have HR1 := Lib.hid (hra.lt.next bX1)
              have HBX1 := Lib.hid (below_step (below_step HB5.out HB5.out.size hb1) (Nat.le_trans HB5.out.size hb1.size) bX1)
              have HX1 := Lib.hid hX1
              have HG2 := Lib.hid (hg2 X1)
              have HBB := Lib.hid BX1
              clear hg1 hg2 hra hv hb1 bX1 BX1 hX1
              go_wp2_with fail
              rw [← HX1.out]
              refine HG2.out.mono ?_
              rintro e W2 ⟨v, rfl, hv, hb2⟩
              obtain ⟨A', c', rfl, hra⟩ := hv.slice
              obtain ⟨X2, hX2⟩ : ∃ X, X = W2.alloc (.cells #[.string nm, .slice A' R.length c', .int .i64 fu] 28) := ⟨_, rfl⟩
              have bX2 : Below W2.heap.size W2 X2 := by rw [hX2]; exact (Below.refl _ _).alloc (Nat.le_refl _) _
              have B2 := HBB.out.next hb2
              have z12 := B2.lt
              have y0 := B2.cell 0
              have y1 := B2.cell 1
              have y2 := B2.cell 2
              simp at y0 y1 y2
              have HS := Lib.hid (same_yes nm A A' c c' R fu X2 ((HR1.out.next hb2).next bX2) (hra.lt.next bX2))
              have HBX2 := Lib.hid (below_step (below_step HBX1.out HBX1.out.size hb2) (Nat.le_trans HBX1.out.size hb2.size) bX2)
              have HX2 := Lib.hid hX2
              clear hra hv hb2 bX2 B2 hX2 HG2 HR1 HBB HX1
              go_wp2_with fail
              rw [← HX2.out]
              refine HS.out.mono ?_
              rintro e W3 ⟨rfl, hb3⟩
              go_wp2_with fail
              exact ⟨⟨m + 1, by omega, by go_num, below_step HBX2.out HBX2.out.size hb3⟩, by simp [intOf]; omega⟩
            · have e2 : m = 2 := by omega
              subst e2
              go_wp2_with fail
              exact ⟨⟨k + 1, by omega, by go_num, below_step HB4.out HB4.out.size HB5.out⟩, by simp [intOf]; omega⟩
        · have e3 : k = 3 := by omega
          subst e3
          have HA := Lib.hid (awake14_any wr)
          go_wp2_with fail
          refine HA.out.mono ?_
          rintro e W1 ⟨rfl, hb1⟩
          go_wp2_with fail
          go_ret
          exact ⟨rfl, below_step (below_step (below_step HVB.out HVB.out.size HB2.out) (Nat.le_trans HVB.out.size HB2.out.size) HB3.out) (Nat.le_trans (Nat.le_trans HVB.out.size HB2.out.size) HB3.out.size) hb1⟩
end Go.Proofs.Ytnoeefbipdpeaaa
