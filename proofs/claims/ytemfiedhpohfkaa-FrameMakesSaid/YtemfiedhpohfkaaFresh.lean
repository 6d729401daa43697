/-
  The example of chapter 3; the walk of FrameFresh.
-/
import Derived.Test.YtemfiedhpohfkaaValid
import Derived.Test.YtemfiedhpohfkaaMod
namespace Go.Proofs.Ytemfiedhpohfkaa
open Go.RowKit
set_option linter.unusedVariables false

theorem drawn {B : Nat} {a w : World} (m : Nat) (h : Below B a w) : Below B a (w.drewN m) := h.trans ⟨rfl, rfl, rfl, Nat.le_refl _, fun _ _ => rfl⟩

set_option maxHeartbeats 1000000 in
theorem awake_any (w : World) : Calls Try.prog 8 #[] w fun e w' => e = .returned (.bool true) ∧ Below w.heap.size w w' := by
  have e1 : ofE 4 3 37 = 0 := by decide
  have e2 : ofF 4 3 37 = 2 := by decide
  have e3 : ofO 4 3 37 = 5 := by decide
  have hv : validB (4 : Int) 48 (fun _ => 0) 3 (fun _ => frFree) = true := validB_yes (valid_fresh (k := 4) (n := 3) (by decide) (by decide) (by decide) (by decide))
  have E1 := Lib.hid e1
  have E2 := Lib.hid e2
  have E3 := Lib.hid e3
  have HV := Lib.hid hv
  clear e1 e2 e3 hv
  go_enter Try.func8, Try.ntmps8
  go_wp2_with fail
  refine (new_yes 4 3 _ (by decide) (by decide) (by decide) (by decide)).mono ?_
  rintro e w1 ⟨A, A', rfl, ha, ht, hb⟩
  have HA : Hid (Arr w1 w1.heap.size A 48 48 (fun _ => 0)) := ha.arr
  have HT : Hid (Tab w1 w1.heap.size A' 3 3 (fun _ => frFree)) := ht.tab
  have HB := Lib.hid hb
  clear ha ht hb
  obtain ⟨V, hV⟩ : ∃ V, V = w1.alloc (.cells #[.int .i64 4, .slice A 48 48, .slice A' 3 3] 25) := ⟨_, rfl⟩
  have BX : Blk V w1.heap.size 25 #[.int .i64 4, .slice A 48 48, .slice A' 3 3] := by rw [hV]; exact Blk.new _ _ _
  have hbv : Below w1.heap.size w1 V := by rw [hV]; exact (Below.refl _ _).alloc (Nat.le_refl _) _
  have HAV := Lib.hid (HA.out.next hbv)
  have HTV := Lib.hid (HT.out.next hbv)
  have HBV := Lib.hid (below_next HB.out (Nat.le_refl _) hbv)
  have HV1 := Lib.hid hV
  have p0 := BX.cell 0
  have p1 := BX.cell 1
  have p2 := BX.cell 2
  simp at p0 p1 p2
  clear hV hbv
  go_wp2_with fail
  rw [← HV1.out]
  refine (of_any 4 _ A' 3 3 37 _ (by decide) (by decide)).mono ?_
  rintro e w2 ⟨rfl, hb2⟩
  rw [E1.out, E2.out, E3.out]
  have BX2 := BX.next hb2
  have HA2 := Lib.hid (HAV.out.next hb2)
  have HT2 := Lib.hid (HTV.out.next hb2)
  have HB2 := Lib.hid (below_next HBV.out (Nat.le_refl _) hb2)
  clear p0 p1 p2 hb2 BX
  have p0 := BX2.cell 0
  have p1 := BX2.cell 1
  have p2 := BX2.cell 2
  simp at p0 p1 p2
  go_wp2_with (go_at_call 12; refine (valid_any 4 A A' 48 48 3 3 _ _ _ HA2.out HT2.out).mono ?_; rintro e w3 ⟨rfl, hb3⟩; rw [HV.out]; have HB3 := Lib.hid (below_next HB2.out (Nat.le_refl _) hb3); clear hb3)
  go_ret
  exact ⟨rfl, HB3.out⟩

set_option maxHeartbeats 2000000 in
theorem walkFresh (a0 a1 a2 : Int) (w : World) (w0 : (Lit.int .i64 a0).wf = true) (w1 : (Lit.int .i64 a1).wf = true) (w2 : (Lit.int .i64 a2).wf = true) :
    Calls Try.prog 6 #[.int .i64 a0, .int .i64 a1, .int .i64 a2] w fun e w' => e = .returned (.bool true) ∧ Below w.heap.size w w' := by
  obtain ⟨l0, u0⟩ := bounds_i64 w0
  obtain ⟨l1, u1⟩ := bounds_i64 w1
  obtain ⟨l2, u2⟩ := bounds_i64 w2
  clear w0 w1 w2
  obtain ⟨m0, hm0, b0, c0⟩ : ∃ m, a0 % 6 = m ∧ 0 ≤ m ∧ m < 6 := ⟨_, rfl, by omega, by omega⟩
  obtain ⟨m1, hm1, b1, c1⟩ : ∃ m, a1 % 63 = m ∧ 0 ≤ m ∧ m < 63 := ⟨_, rfl, by omega, by omega⟩
  obtain ⟨k, hk, k0, k1⟩ : ∃ k : Nat, 3 + m0 = k ∧ 3 ≤ k ∧ k ≤ 8 := ⟨(3 + m0).toNat, by omega, by omega, by omega⟩
  obtain ⟨n, hn, n0, n1⟩ : ∃ n : Nat, 2 + m1 = n ∧ 2 ≤ n ∧ n ≤ 64 := ⟨(2 + m1).toNat, by omega, by omega, by omega⟩
  have HK := Lib.hid hk
  have HN := Lib.hid hn
  have M0 := Lib.hid hm0
  have M1 := Lib.hid hm1
  clear hk hn hm0 hm1
  go_enter Try.func6, Try.ntmps6
  go_wp2_with fail
  refine (mod_any _ _ (by omega) (by omega) l0 u0 _).mono ?_
  rintro e w' ⟨rfl, rfl⟩
  rw [M0.out]
  go_wp2_with fail
  refine (mod_any _ _ (by omega) (by omega) l1 u1 _).mono ?_
  rintro e w' ⟨rfl, rfl⟩
  rw [M1.out]
  go_wp2_with fail
  rw [HK.out, HN.out]
  refine (new_yes k n _ k0 k1 n0 n1).mono ?_
  rintro e w1 ⟨A, A', rfl, ha, ht, hb⟩
  have HA := Lib.hid ha.arr
  have HT := Lib.hid ht.tab
  have HB := Lib.hid hb
  clear ha ht hb
  have hv : validB k (n * 2 ^ k) (fun _ => 0) n (fun _ => frFree) = true := validB_yes (valid_fresh k0 k1 n0 n1)
  obtain ⟨m, hm⟩ : ∃ m, m = n * 2 ^ k := ⟨_, rfl⟩
  have hmc : (n : Int) * 2 ^ k = m := by rw [hm]; simp
  have hm0 : m ≤ 16384 := by rw [hm]; exact prod_le n1 k1
  rw [← hm] at HA hv ⊢
  have s1 : IntKind.i64.wrap ((n : Int) * 2 ^ k) = m := by rw [hmc]; exact IntWalk.i64_in _ (by omega)
  have HV := Lib.hid hv
  have HM := Lib.hid hm
  have HMC := Lib.hid hmc
  clear hm hv hmc
  obtain ⟨V, hV⟩ : ∃ V, V = w1.alloc (.cells #[.int .i64 k, .slice A m m, .slice A' n n] 25) := ⟨_, rfl⟩
  obtain ⟨g, hg⟩ : ∃ g, g = w1.heap.size := ⟨_, rfl⟩
  have BX : Blk V g 25 #[.int .i64 k, .slice A m m, .slice A' n n] := by rw [hV, hg]; exact Blk.new _ _ _
  have hbv : Below w1.heap.size w1 V := by rw [hV]; exact (Below.refl _ _).alloc (Nat.le_refl _) _
  have HAV := Lib.hid (HA.out.next hbv)
  have HTV := Lib.hid (HT.out.next hbv)
  have HBV := Lib.hid (below_next HB.out (Nat.le_refl _) hbv)
  have HV1 := Lib.hid hV
  have HG := Lib.hid hg
  have p0 := BX.cell 0
  have p1 := BX.cell 1
  have p2 := BX.cell 2
  simp at p0 p1 p2
  clear hV hbv hg
  have z := BX.lt
  go_wp2_with fail
  rw [← HV1.out, ← HG.out]
  have HAD : Hid (Arr V.drew V.drew.heap.size A m m (fun _ => 0)) := HAV.out
  have HTD : Hid (Tab V.drew V.drew.heap.size A' n n (fun _ => frFree)) := HTV.out
  have BXD : Blk V.drew g 25 #[.int .i64 k, .slice A m m, .slice A' n n] := BX
  have HMC2 : Hid ((n : Int) * 2 ^ k = m) := HMC.out
  go_region_held3 (fun w' => w'.cell? ⟨g, 0, none⟩ = some (.int .i64 k) ∧ w'.cell? ⟨g, 1, none⟩ = some (.slice A m m) ∧ w'.cell? ⟨g, 2, none⟩ = some (.slice A' n n))
    (first | exact ⟨p0, p1, p2⟩ | exact ⟨q0, q1, q2⟩ | exact ⟨r0, r1, r2⟩)
    (first
      | (go_at_call 14; refine (size_yes k _ _ _ k0 k1).mono ?_; rintro e w2 ⟨rfl, hb1⟩; have q0 := (BXD.next hb1).cell 0; have q1 := (BXD.next hb1).cell 1; have q2 := (BXD.next hb1).cell 2; simp at q0 q1 q2; have HB1 := Lib.hid hb1; clear hb1)
      | (go_at_call 12; refine (valid_any k A A' m m n n _ _ _ (HAD.out.next HB1.out) (HTD.out.next HB1.out)).mono ?_; rintro e w3 ⟨rfl, hb2⟩; rw [HV.out]; have r0 := ((BXD.next HB1.out).next hb2).cell 0; have r1 := ((BXD.next HB1.out).next hb2).cell 1; have r2 := ((BXD.next HB1.out).next hb2).cell 2; simp at r0 r1 r2; have HB2 := Lib.hid hb2; clear hb2))
  obtain ⟨f, hf, f0, f1⟩ : ∃ f : Nat, a2 % (n : Int) = f ∧ 0 ≤ f ∧ f < n := ⟨(a2 % (n : Int)).toNat, by rw [Int.toNat_of_nonneg (Int.emod_nonneg _ (by omega))], by omega, by have := Int.emod_lt_of_pos a2 (show 0 < (n : Int) by omega); have := Int.emod_nonneg a2 (show (n : Int) ≠ 0 by omega); omega⟩
  have HF := Lib.hid hf
  have hb3 : Below V.drew.heap.size V.drew w3 := below_next HB1.out (Nat.le_refl _) HB2.out
  have HT3 : Hid (Tab w3 w3.heap.size A' n n (fun _ => frFree)) := HTD.out.next hb3
  obtain ⟨b, o, rfl, hbb⟩ := HT3.out.base_ (by omega)
  obtain ⟨_, d0, d1, d2⟩ := HT3.out.cells f f1
  have HB3 : Hid (Below w.heap.size w w3) := below_next (drawn 1 HBV.out) (Nat.le_refl _) hb3
  have fb : 0 ≤ (f : Int) ∧ (f : Int) < n := by omega
  clear hf hb3 p0 p1 p2 q0 q1 q2 s1
  go_wp2
  change w3.cell? ⟨b, o + f * 3, none⟩ = some (.int .i64 (-1)) at d0
  change w3.cell? ⟨b, o + f * 3 + 1, none⟩ = some (.int .i64 (-1)) at d1
  change w3.cell? ⟨b, o + f * 3 + 2, none⟩ = some (.int .i64 (-1)) at d2
  have gz : g < w3.heap.size := ((BXD.next HB1.out).next HB2.out).lt
  go_region_held3 (fun w' => w'.cell? ⟨g, 2, none⟩ = some (.slice (some ⟨b, o, none⟩) n n) ∧ w'.cell? ⟨b, o + f * 3, none⟩ = some (.int .i64 (-1)) ∧ w'.cell? ⟨b, o + f * 3 + 1, none⟩ = some (.int .i64 (-1)) ∧ w'.cell? ⟨b, o + f * 3 + 2, none⟩ = some (.int .i64 (-1)))
    (first | exact ⟨r2, d0, d1, d2⟩ | go_keep)
    (first | (go_at_call 16; refine (mod_any _ n (by omega) (by omega) l2 u2 _).mono ?_; rintro e w' ⟨rfl, rfl⟩; rw [HF.out]))
  all_goals
    go_wp2_with (go_at_call 8; refine (awake_any _).mono ?_; rintro e w6 ⟨rfl, b6⟩; have HB6 := Lib.hid b6; clear b6)
    go_ret
    exact ⟨rfl, below_next (HB3.out.alloc HB3.out.size _).drew (Nat.le_refl _) HB6.out⟩
end Go.Proofs.Ytemfiedhpohfkaa
