/-
  The walk of FrameBack.
-/
import Derived.Test.YtemfiedhpohfkaaMod
import Derived.Deep.DeepCutAuto
namespace Go.Proofs.Ytemfiedhpohfkaa
open Go.RowKit
set_option linter.unusedVariables false

set_option maxHeartbeats 1000000 in
theorem walkBack (a0 a1 a2 a3 a4 : Int) (w : World) (w0 : (Lit.int .i64 a0).wf = true) (w1 : (Lit.int .i64 a1).wf = true) (w2 : (Lit.int .i64 a2).wf = true) (w3 : (Lit.int .i64 a3).wf = true) (w4 : (Lit.int .i64 a4).wf = true) :
    Calls Try.prog 5 #[.int .i64 a0, .int .i64 a1, .int .i64 a2, .int .i64 a3, .int .i64 a4] w fun e w' => e = .returned (.bool true) ∧ Below w.heap.size w w' := by
  obtain ⟨l0, u0⟩ := bounds_i64 w0
  obtain ⟨l1, u1⟩ := bounds_i64 w1
  obtain ⟨l2, u2⟩ := bounds_i64 w2
  obtain ⟨l3, u3⟩ := bounds_i64 w3
  obtain ⟨l4, u4⟩ := bounds_i64 w4
  clear w0 w1 w2 w3 w4
  obtain ⟨k, hk, k0, k1⟩ : ∃ k : Nat, 3 + a0 % 4 = k ∧ 3 ≤ k ∧ k ≤ 8 := ⟨(3 + a0 % 4).toNat, by omega, by omega, by omega⟩
  obtain ⟨n, hn, n0, n1⟩ : ∃ n : Nat, 2 + a1 % 60 = n ∧ 2 ≤ n ∧ n ≤ 64 := ⟨(2 + a1 % 60).toNat, by omega, by omega, by omega⟩
  obtain ⟨m0, hm0, b0, c0⟩ : ∃ m, a0 % 4 = m ∧ 0 ≤ m ∧ m < 4 := ⟨_, rfl, by omega, by omega⟩
  obtain ⟨m1, hm1, b1, c1⟩ : ∃ m, a1 % 60 = m ∧ 0 ≤ m ∧ m < 60 := ⟨_, rfl, by omega, by omega⟩
  rw [hm0] at hk
  rw [hm1] at hn
  have HK := Lib.hid hk
  have HN := Lib.hid hn
  have M0 := Lib.hid hm0
  have M1 := Lib.hid hm1
  clear hk hn hm0 hm1
  go_enter Try.func5, Try.ntmps5
  go_wp2_with fail
  refine (mod_any _ _ (by omega) (by omega) l0 u0 _).mono ?_
  rintro e w' ⟨rfl, rfl⟩
  rw [M0.out]
  go_wp2_with fail
  refine (mod_any _ _ (by omega) (by omega) l1 u1 _).mono ?_
  rintro e w' ⟨rfl, rfl⟩
  rw [M1.out]
  go_wp2_with fail
  rw [HK.out, HN.out]
  refine (new_yes k n _ k0 k1 n0 n1).mono ?_
  rintro e w1 ⟨A, A', rfl, ha, ht, hb⟩
  have hA := ha.arr
  have hT := ht.tab
  have HA := Lib.hid hA
  have HT := Lib.hid hT
  have HB := Lib.hid hb
  clear ha ht hb hA hT
  have hz : w.heap.size ≤ w1.heap.size := HB.out.size
  obtain ⟨m, hm⟩ : ∃ m, m = n * 2 ^ k := ⟨_, rfl⟩
  have hm0 : m ≤ 16384 := by rw [hm]; exact prod_le n1 k1
  have hm1 : 16 ≤ m := by
    rw [hm]
    have h8 : 2 ^ 3 ≤ 2 ^ k := Nat.pow_le_pow_right (by decide) k0
    have := Nat.mul_le_mul n0 h8
    omega
  rw [← hm]
  have HM := Lib.hid hm
  clear hm
  obtain ⟨V, hV⟩ : ∃ V, V = w1.alloc (.cells #[.int .i64 k, .slice A m m, .slice A' n n] 25) := ⟨_, rfl⟩
  obtain ⟨g, hg⟩ : ∃ g, g = w1.heap.size := ⟨_, rfl⟩
  have BX : Blk V g 25 #[.int .i64 k, .slice A m m, .slice A' n n] := by rw [hV, hg]; exact Blk.new _ _ _
  have hBV : Below w.heap.size w V := by rw [hV]; exact HB.out.alloc hz _
  have HV := Lib.hid hV
  have HG := Lib.hid hg
  have HBV := Lib.hid hBV
  have p0 := BX.cell 0
  have p1 := BX.cell 1
  have p2 := BX.cell 2
  simp at p0 p1 p2
  clear hV hg hBV HB HA HT
  go_wp2_with fail
  rw [← HV.out, ← HG.out]
  have s1 : IntKind.i64.wrap (2 + m1) = n := by rw [IntWalk.i64_in _ (by omega)]; exact HN.out
  have md := fun W => (mod_any a1 60 (by omega) (by omega) l1 u1 W)
  rw [M1.out] at md
  go_quiet ((go_at_call 16; exact Calls.quiet_of_same ((md _).mono fun _ _ h => ⟨h.1, h.2.symm⟩)))
  clear s1 md
  go_wp2_with fail
  obtain ⟨V2, hV2⟩ : ∃ V2, V2 = V.drewN nq := ⟨_, rfl⟩
  have HBV2 := Lib.hid (show Below w.heap.size w V2 by rw [hV2]; exact HBV.out.trans ⟨rfl, rfl, rfl, Nat.le_refl _, fun _ _ => rfl⟩)
  have BX2 : Blk V2 g 25 #[.int .i64 k, .slice A m m, .slice A' n n] := by rw [hV2]; exact BX
  rw [← hV2]
  clear hV2 HBV BX p0 p1 p2 HV HG
  have p0 := BX2.cell 0
  have p1 := BX2.cell 1
  have p2 := BX2.cell 2
  simp at p0 p1 p2
  have s1 : IntKind.i64.wrap ((m : Int) + 1) = m + 1 := IntWalk.i64_in _ (by omega)
  have md := fun W => (mod_any a2 (m + 1) (by omega) (by omega) l2 u2 W)
  go_quiet ((go_at_call 16; exact Calls.quiet_of_same ((md _).mono fun _ _ h => ⟨h.1, h.2.symm⟩)))
  clear s1 md
  have x0 := Int.emod_nonneg a2 (show (m : Int) + 1 ≠ 0 by omega)
  obtain ⟨x, hx⟩ : ∃ x, x = (a2 % ((m : Int) + 1)).tmod m := ⟨_, rfl⟩
  rw [← hx]
  rw [Int.tmod_eq_emod_of_nonneg x0] at hx
  have x1 := Int.emod_nonneg (a2 % ((m : Int) + 1)) (show (m : Int) ≠ 0 by omega)
  have x2 := Int.emod_lt_of_pos (a2 % ((m : Int) + 1)) (show 0 < (m : Int) by omega)
  rw [← hx] at x1 x2
  clear hx x0
  have eof : ofE k n x = 0 := by
    have : numB k n = true := by simp [numB, shB]; omega
    have h2 := prod_cast n k
    rw [← HM.out] at h2
    simp [ofE, this]
    omega
  have EOF := Lib.hid eof
  have EOV : Hid (ofF k n x = x / 2 ^ k ∧ ofO k n x = x % 2 ^ k) := ⟨by simp [ofF, eof], by simp [ofO, eof]⟩
  clear eof
  obtain ⟨V3, hV3⟩ : ∃ V3, V3 = V2.drewN nq := ⟨_, rfl⟩
  have HBV3 := Lib.hid (show Below w.heap.size w V3 by rw [hV3]; exact HBV2.out.trans ⟨rfl, rfl, rfl, Nat.le_refl _, fun _ _ => rfl⟩)
  have BX3 : Blk V3 g 25 #[.int .i64 k, .slice A m m, .slice A' n n] := by rw [hV3]; exact BX2
  rw [← hV3]
  clear hV3 HBV2 BX2 p0 p1 p2
  have p0 := BX3.cell 0
  have p1 := BX3.cell 1
  have p2 := BX3.cell 2
  simp at p0 p1 p2
  go_wp2_with fail
  refine (of_any k (.slice A m m) A' n n x _ (by omega) (by omega)).mono ?_
  rintro e V4 ⟨rfl, hb4⟩
  rw [EOF.out, EOV.out.1, EOV.out.2]
  have HBV4 := Lib.hid (below_next HBV3.out (Nat.le_refl _) hb4)
  have BX4 := BX3.next hb4
  clear p0 p1 p2 HBV3 BX3 hb4
  have p0 := BX4.cell 0
  have p1 := BX4.cell 1
  have p2 := BX4.cell 2
  simp at p0 p1 p2
  go_wp2_with fail
  have pk := pw_pos k
  have pk2 := pw_bd k1
  obtain ⟨fx, hfx⟩ : ∃ fx, fx = x / 2 ^ k := ⟨_, rfl⟩
  obtain ⟨ox, hox⟩ : ∃ ox, ox = x % 2 ^ k := ⟨_, rfl⟩
  obtain ⟨bx, hbx⟩ : ∃ bx, bx = fx * 2 ^ k := ⟨_, rfl⟩
  have fo : bx + ox = x := by rw [hbx, hfx, hox]; exact Int.ediv_mul_add_emod x (2 ^ k)
  have o0 : 0 ≤ ox := by rw [hox]; exact Int.emod_nonneg _ (by omega)
  have o1 : ox < 2 ^ k := by rw [hox]; exact Int.emod_lt_of_pos _ pk
  have f0 : 0 ≤ fx := by rw [hfx]; exact Int.ediv_nonneg x1 (by omega)
  have f1 : fx < n := by
    rw [hfx]
    refine Int.ediv_lt_of_lt_mul pk ?_
    have h2 := prod_cast n k
    rw [← HM.out] at h2
    omega
  have num : numB k n = true := by simp [numB, shB]; omega
  have bE : baseE k n fx = 0 := by simp [baseE, num, inB]; omega
  have bV : baseV k n fx = bx := by simp [baseV, bE, hbx]
  rw [← hfx, ← hox]
  have FO := Lib.hid fo
  have NUM := Lib.hid num
  have BE := Lib.hid bE
  have BV := Lib.hid bV
  clear hfx hox fo hbx num bE bV
  refine (base_any k (.slice A m m) A' n n fx _).mono ?_
  rintro e V5 ⟨rfl, hb5⟩
  rw [BE.out, BV.out]
  have HBV5 := Lib.hid (below_next HBV4.out (Nat.le_refl _) hb5)
  have BX5 := BX4.next hb5
  clear p0 p1 p2 HBV4 BX4 hb5
  have p0 := BX5.cell 0
  have p1 := BX5.cell 1
  have p2 := BX5.cell 2
  simp at p0 p1 p2
  go_wp2_with fail
  have md : ∀ W v, v = a3 ∨ v = a4 → Calls Try.prog 16 #[.int .i64 v, .int .i64 n] W fun e w' => e = .returned (.int .i64 (v % n)) ∧ w' = W := fun W v hv =>
    (mod_any v n (by omega) (by omega) (by omega) (by omega) W).mono fun _ _ h => ⟨h.1, h.2.symm⟩
  go_quiet ((go_at_call 16; exact Calls.quiet_of_same (md _ _ (by first | exact .inl rfl | exact .inr rfl))))
  clear md
  obtain ⟨p, hp, r0, r1⟩ : ∃ p, a3 % (n : Int) = p ∧ 0 ≤ p ∧ p < n := ⟨_, rfl, Int.emod_nonneg _ (by omega), Int.emod_lt_of_pos _ (by omega)⟩
  obtain ⟨q, hq, t0, t1⟩ : ∃ q, a4 % (n : Int) = q ∧ 0 ≤ q ∧ q < n := ⟨_, rfl, Int.emod_nonneg _ (by omega), Int.emod_lt_of_pos _ (by omega)⟩
  rw [hp, hq]
  have ip : inB n p = true := by simp [inB]; omega
  have iq : inB n q = true := by simp [inB]; omega
  have pE : pairE k n p q = 0 := by simp [pairE, NUM.out, ip, iq]
  have pV : pairV k n p q = p * n + q := by simp [pairV, pE]
  obtain ⟨y0, y1, _, _⟩ := pair_bd ip iq n1
  obtain ⟨z, hz⟩ : ∃ z, z = p * n + q := ⟨_, rfl⟩
  have z0 : 0 ≤ z ∧ z ≤ 5000 := by omega
  have zs : z < n * n := by
    have : p * n ≤ (n - 1) * n := Int.mul_le_mul_of_nonneg_right (by omega) (by omega)
    have h2 : ((n : Int) - 1) * n = n * n - n := by rw [Int.sub_mul]; omega
    omega
  have uE : unE k n z = 0 := by simp [unE, NUM.out]; omega
  have uF : unF k n z = p := by
    simp only [unF, uE, if_true]
    rw [hz, Int.add_comm, Int.add_mul_ediv_right _ _ (by omega), Int.ediv_eq_zero_of_lt t0 t1]
    omega
  have uG : unG k n z = q := by
    simp only [unG, uE, if_true]
    rw [hz, Int.add_comm, Int.add_mul_emod_self_right, Int.emod_eq_of_lt t0 t1]
  rw [← hz] at pV
  have PE := Lib.hid pE
  have PV := Lib.hid pV
  have UE := Lib.hid uE
  have UF := Lib.hid uF
  have UG := Lib.hid uG
  clear hp hq ip iq pE pV uE uF uG hz y0 y1
  obtain ⟨V6, hV6⟩ : ∃ V6, V6 = V5.drewN nq := ⟨_, rfl⟩
  have HBV6 := Lib.hid (show Below w.heap.size w V6 by rw [hV6]; exact HBV5.out.trans ⟨rfl, rfl, rfl, Nat.le_refl _, fun _ _ => rfl⟩)
  have BX6 : Blk V6 g 25 #[.int .i64 k, .slice A m m, .slice A' n n] := by rw [hV6]; exact BX5
  rw [← hV6]
  clear hV6 HBV5 BX5 p0 p1 p2
  have p0 := BX6.cell 0
  have p1 := BX6.cell 1
  have p2 := BX6.cell 2
  simp at p0 p1 p2
  go_wp2_with fail
  refine (pair_any k (.slice A m m) A' n n p q _).mono ?_
  rintro e V7 ⟨rfl, hb7⟩
  rw [PE.out, PV.out]
  have HBV7 := Lib.hid (below_next HBV6.out (Nat.le_refl _) hb7)
  have BX7 := BX6.next hb7
  clear p0 p1 p2 HBV6 BX6 hb7
  have p0 := BX7.cell 0
  have p1 := BX7.cell 1
  have p2 := BX7.cell 2
  simp at p0 p1 p2
  go_wp2_with fail
  refine (unpair_any k (.slice A m m) A' n n z _ (by omega) (by omega)).mono ?_
  rintro e V8 ⟨rfl, hb8⟩
  rw [UE.out, UF.out, UG.out]
  have HBV8 := Lib.hid (below_next HBV7.out (Nat.le_refl _) hb8)
  have BX8 := BX7.next hb8
  clear p0 p1 p2 HBV7 BX7 hb8
  have p0 := BX8.cell 0
  have p1 := BX8.cell 1
  have p2 := BX8.cell 2
  simp at p0 p1 p2
  have fo : wrap64 (bx + ox) = x := by
    have := FO.out
    rw [IntWalk.wrap64_in _ ⟨by omega, by omega⟩]
    exact this
  have o2 : decide (0 ≤ ox) = true := decide_eq_true o0
  have o3 : decide (ox < 2 ^ k) = true := decide_eq_true o1
  go_wp2_with (go_at_call 14; refine (size_yes k _ _ _ k0 k1).mono ?_; rintro e V9 ⟨rfl, hb9⟩; have HBV9 := Lib.hid (below_next HBV8.out (Nat.le_refl _) hb9); clear hb9)
  go_ret
  exact ⟨rfl, HBV9.out⟩
end Go.Proofs.Ytemfiedhpohfkaa
