/-
  The walk of PresetValid.
-/
import Derived.Test.YtnoeefbipdpeaaaPFact
namespace Go.Proofs.Ytnoeefbipdpeaaa
open Go.RowKit
set_option maxRecDepth 100000
set_option linter.unusedVariables false

set_option maxHeartbeats 8000000 in
theorem walkValid (w : World) (p0 : Int) (l0 : -9223372036854775808 ≤ p0) (u0 : p0 ≤ 9223372036854775807) :
    Calls Try.prog 4 #[.int .i64 p0] w fun e w' => e = .returned (.bool true) ∧ Below w.heap.size w w' := by
  have hmod := fun W => mod_any p0 100 (by decide) (by decide) l0 u0 W
  have hw : IntKind.i64.wrap (1 + p0 % 100) = 1 + p0 % 100 := IntWalk.i64_in _ (by omega)
  have hp : okP (1 + p0 % 100) := ⟨by omega, by omega⟩
  generalize p0 % 100 = q at *
  obtain ⟨V, hV⟩ : ∃ V, V = w.alloc (.cells #[.string (preN 0), .string (preN 1), .string (preN 2), .string (preN 3), .string (preN 4), .string (preN 5)] 9) := ⟨_, rfl⟩
  have BN := Lib.hid (show Blk V w.heap.size 9 #[.string (preN 0), .string (preN 1), .string (preN 2), .string (preN 3), .string (preN 4), .string (preN 5)] by rw [hV]; exact Blk.new _ _ _)
  have HVB := Lib.hid (show Below w.heap.size w V by rw [hV]; exact (Below.refl _ _).alloc (Nat.le_refl _) _)
  have HV := Lib.hid hV
  clear hV
  go_enter Try.func4, Try.ntmps4
  go_wp2_with fail
  refine (names14_any _).mono ?_
  rintro e W3 ⟨rfl, rfl⟩
  rw [← HV.out]
  go_wp2_with fail
  go_loopw [11] (fun i wr => ∃ k : Nat, k ≤ 6 ∧ i = .int .i64 k ∧ Below V.heap.size V wr) (fun i _ => 6 - (intOf i).toNat)
  case atStart => exact ⟨0, Nat.zero_le _, rfl, Below.refl _ _⟩
  case round =>
    obtain ⟨k, hk, rfl, hb⟩ := hrel
    have HB := Lib.hid hb
    clear hb
    by_cases hlt : k < 6
    · have BK := BN.out.next HB.out
      have zN : w.heap.size < wr.heap.size := BK.lt
      have c0 := BK.cell k
      rcases (by omega : k = 0 ∨ k = 1 ∨ k = 2 ∨ k = 3 ∨ k = 4 ∨ k = 5) with rfl | rfl | rfl | rfl | rfl | rfl
      · simp at c0
        clear BK hlt hk
        have HG := Lib.hid (get14_any (preN 0) (1 + q) (by have := hp.1; omega) (by have := hp.2; omega) wr)
        obtain ⟨e1, e2, e3, e4⟩ := gets_yes (i := 0) (by omega) hp
        obtain ⟨y1, y2⟩ := pre_prt (i := 0) (by omega) hp
        have y3 := pre_cpl (i := 0) (by omega) hp
        have y4 := pre_wf (i := 0) (by omega) hp
        rw [show decide ((0 : Nat) ≠ 3 ∧ (0 : Nat) ≠ 4) = true from rfl] at y3
        have HP := Lib.hid hp
        simp only [preN] at c0
        go_wp2_with fail
        refine (hmod _).mono ?_
        rintro e W1 ⟨rfl, rfl⟩
        go_wp2_with fail
        refine HG.out.mono ?_
        rintro e W1 ⟨v, rfl, hv, hb1⟩
        rw [e1, e3, e4]
        rw [e2] at hv
        obtain ⟨A, c, rfl, hra⟩ := hv.slice
        obtain ⟨W2, hW2⟩ : ∃ W, W = W1.alloc (.cells #[.string (preN 0), .slice A (preR (Sh.pcF (1 + q)) 0).length c, .int .i64 (preF 0)] 28) := ⟨_, rfl⟩
        have hb2 : Below W1.heap.size W1 W2 := by rw [hW2]; exact (Below.refl _ _).alloc (Nat.le_refl _) _
        have BC := Lib.hid (show Blk W2 W1.heap.size 28 #[.string (preN 0), .slice A (preR (Sh.pcF (1 + q)) 0).length c, .int .i64 (preF 0)] by rw [hW2]; exact Blk.new _ _ _)
        have HR2 := Lib.hid (hra.lt.next hb2)
        have HW2 := Lib.hid hW2
        have HPR := Lib.hid (refPrint_any (preN 0) A c (preR (Sh.pcF (1 + q)) 0) (preF 0) W2 HR2.out y4 (by decide))
        have HB2 := Lib.hid (below_step (below_step HB.out HB.out.size hb1) (Nat.le_trans HB.out.size hb1.size) hb2)
        clear hra hv hb1 hb2 hW2 e1 e2 e3 e4 HG
        go_wp2_with fail
        rw [← HW2.out]
        refine HPR.out.mono ?_
        rintro e W3 ⟨rfl, hb3⟩
        rw [y1]
        have hz : (0 : Int) < (tx (prtL (preN 0) (preR (Sh.pcF (1 + q)) 0) (preF 0))).size := by rw [tx_size]; omega
        have BC3 := BC.out.next hb3
        have q0 := BC3.cell 0
        have q1 := BC3.cell 1
        have q2 := BC3.cell 2
        simp at q0 q1 q2
        have HCP := Lib.hid (refComplete_any (preN 0) A c (preR (Sh.pcF (1 + q)) 0) (preF 0) W3 (HR2.out.next hb3) y4 (by decide))
        have HB3 := Lib.hid (below_step HB2.out HB2.out.size hb3)
        clear hb3 BC3
        generalize tx (prtL (preN 0) (preR (Sh.pcF (1 + q)) 0) (preF 0)) = TL at *
        go_wp2_with fail
        · exact absurd hz (by have h : TL = ByteArray.empty := by assumption
                              rw [h]; decide)
        · refine HCP.out.mono ?_
          rintro e W4 ⟨rfl, hb4⟩
          rw [y3]
          go_wp2_with fail
          exact ⟨⟨0 + 1, by omega, by go_num, below_step HB3.out HB3.out.size hb4⟩, by simp [intOf]⟩
      · simp at c0
        clear BK hlt hk
        have HG := Lib.hid (get14_any (preN 1) (1 + q) (by have := hp.1; omega) (by have := hp.2; omega) wr)
        obtain ⟨e1, e2, e3, e4⟩ := gets_yes (i := 1) (by omega) hp
        obtain ⟨y1, y2⟩ := pre_prt (i := 1) (by omega) hp
        have y3 := pre_cpl (i := 1) (by omega) hp
        have y4 := pre_wf (i := 1) (by omega) hp
        rw [show decide ((1 : Nat) ≠ 3 ∧ (1 : Nat) ≠ 4) = true from rfl] at y3
        have HP := Lib.hid hp
        simp only [preN] at c0
        go_wp2_with fail
        refine (hmod _).mono ?_
        rintro e W1 ⟨rfl, rfl⟩
        go_wp2_with fail
        refine HG.out.mono ?_
        rintro e W1 ⟨v, rfl, hv, hb1⟩
        rw [e1, e3, e4]
        rw [e2] at hv
        obtain ⟨A, c, rfl, hra⟩ := hv.slice
        obtain ⟨W2, hW2⟩ : ∃ W, W = W1.alloc (.cells #[.string (preN 1), .slice A (preR (Sh.pcF (1 + q)) 1).length c, .int .i64 (preF 1)] 28) := ⟨_, rfl⟩
        have hb2 : Below W1.heap.size W1 W2 := by rw [hW2]; exact (Below.refl _ _).alloc (Nat.le_refl _) _
        have BC := Lib.hid (show Blk W2 W1.heap.size 28 #[.string (preN 1), .slice A (preR (Sh.pcF (1 + q)) 1).length c, .int .i64 (preF 1)] by rw [hW2]; exact Blk.new _ _ _)
        have HR2 := Lib.hid (hra.lt.next hb2)
        have HW2 := Lib.hid hW2
        have HPR := Lib.hid (refPrint_any (preN 1) A c (preR (Sh.pcF (1 + q)) 1) (preF 1) W2 HR2.out y4 (by decide))
        have HB2 := Lib.hid (below_step (below_step HB.out HB.out.size hb1) (Nat.le_trans HB.out.size hb1.size) hb2)
        clear hra hv hb1 hb2 hW2 e1 e2 e3 e4 HG
        go_wp2_with fail
        rw [← HW2.out]
        refine HPR.out.mono ?_
        rintro e W3 ⟨rfl, hb3⟩
        rw [y1]
        have hz : (0 : Int) < (tx (prtL (preN 1) (preR (Sh.pcF (1 + q)) 1) (preF 1))).size := by rw [tx_size]; omega
        have BC3 := BC.out.next hb3
        have q0 := BC3.cell 0
        have q1 := BC3.cell 1
        have q2 := BC3.cell 2
        simp at q0 q1 q2
        have HCP := Lib.hid (refComplete_any (preN 1) A c (preR (Sh.pcF (1 + q)) 1) (preF 1) W3 (HR2.out.next hb3) y4 (by decide))
        have HB3 := Lib.hid (below_step HB2.out HB2.out.size hb3)
        clear hb3 BC3
        generalize tx (prtL (preN 1) (preR (Sh.pcF (1 + q)) 1) (preF 1)) = TL at *
        go_wp2_with fail
        · exact absurd hz (by have h : TL = ByteArray.empty := by assumption
                              rw [h]; decide)
        · refine HCP.out.mono ?_
          rintro e W4 ⟨rfl, hb4⟩
          rw [y3]
          go_wp2_with fail
          exact ⟨⟨1 + 1, by omega, by go_num, below_step HB3.out HB3.out.size hb4⟩, by simp [intOf]⟩
      · simp at c0
        clear BK hlt hk
        have HG := Lib.hid (get14_any (preN 2) (1 + q) (by have := hp.1; omega) (by have := hp.2; omega) wr)
        obtain ⟨e1, e2, e3, e4⟩ := gets_yes (i := 2) (by omega) hp
        obtain ⟨y1, y2⟩ := pre_prt (i := 2) (by omega) hp
        have y3 := pre_cpl (i := 2) (by omega) hp
        have y4 := pre_wf (i := 2) (by omega) hp
        rw [show decide ((2 : Nat) ≠ 3 ∧ (2 : Nat) ≠ 4) = true from rfl] at y3
        have HP := Lib.hid hp
        simp only [preN] at c0
        go_wp2_with fail
        refine (hmod _).mono ?_
        rintro e W1 ⟨rfl, rfl⟩
        go_wp2_with fail
        refine HG.out.mono ?_
        rintro e W1 ⟨v, rfl, hv, hb1⟩
        rw [e1, e3, e4]
        rw [e2] at hv
        obtain ⟨A, c, rfl, hra⟩ := hv.slice
        obtain ⟨W2, hW2⟩ : ∃ W, W = W1.alloc (.cells #[.string (preN 2), .slice A (preR (Sh.pcF (1 + q)) 2).length c, .int .i64 (preF 2)] 28) := ⟨_, rfl⟩
        have hb2 : Below W1.heap.size W1 W2 := by rw [hW2]; exact (Below.refl _ _).alloc (Nat.le_refl _) _
        have BC := Lib.hid (show Blk W2 W1.heap.size 28 #[.string (preN 2), .slice A (preR (Sh.pcF (1 + q)) 2).length c, .int .i64 (preF 2)] by rw [hW2]; exact Blk.new _ _ _)
        have HR2 := Lib.hid (hra.lt.next hb2)
        have HW2 := Lib.hid hW2
        have HPR := Lib.hid (refPrint_any (preN 2) A c (preR (Sh.pcF (1 + q)) 2) (preF 2) W2 HR2.out y4 (by decide))
        have HB2 := Lib.hid (below_step (below_step HB.out HB.out.size hb1) (Nat.le_trans HB.out.size hb1.size) hb2)
        clear hra hv hb1 hb2 hW2 e1 e2 e3 e4 HG
        go_wp2_with fail
        rw [← HW2.out]
        refine HPR.out.mono ?_
        rintro e W3 ⟨rfl, hb3⟩
        rw [y1]
        have hz : (0 : Int) < (tx (prtL (preN 2) (preR (Sh.pcF (1 + q)) 2) (preF 2))).size := by rw [tx_size]; omega
        have BC3 := BC.out.next hb3
        have q0 := BC3.cell 0
        have q1 := BC3.cell 1
        have q2 := BC3.cell 2
        simp at q0 q1 q2
        have HCP := Lib.hid (refComplete_any (preN 2) A c (preR (Sh.pcF (1 + q)) 2) (preF 2) W3 (HR2.out.next hb3) y4 (by decide))
        have HB3 := Lib.hid (below_step HB2.out HB2.out.size hb3)
        clear hb3 BC3
        generalize tx (prtL (preN 2) (preR (Sh.pcF (1 + q)) 2) (preF 2)) = TL at *
        go_wp2_with fail
        · exact absurd hz (by have h : TL = ByteArray.empty := by assumption
                              rw [h]; decide)
        · refine HCP.out.mono ?_
          rintro e W4 ⟨rfl, hb4⟩
          rw [y3]
          go_wp2_with fail
          exact ⟨⟨2 + 1, by omega, by go_num, below_step HB3.out HB3.out.size hb4⟩, by simp [intOf]⟩
      · simp at c0
        clear BK hlt hk
        have HG := Lib.hid (get14_any (preN 3) (1 + q) (by have := hp.1; omega) (by have := hp.2; omega) wr)
        obtain ⟨e1, e2, e3, e4⟩ := gets_yes (i := 3) (by omega) hp
        obtain ⟨y1, y2⟩ := pre_prt (i := 3) (by omega) hp
        have y3 := pre_cpl (i := 3) (by omega) hp
        have y4 := pre_wf (i := 3) (by omega) hp
        rw [show decide ((3 : Nat) ≠ 3 ∧ (3 : Nat) ≠ 4) = false from rfl] at y3
        have HP := Lib.hid hp
        simp only [preN] at c0
        go_wp2_with fail
        refine (hmod _).mono ?_
        rintro e W1 ⟨rfl, rfl⟩
        go_wp2_with fail
        refine HG.out.mono ?_
        rintro e W1 ⟨v, rfl, hv, hb1⟩
        rw [e1, e3, e4]
        rw [e2] at hv
        obtain ⟨A, c, rfl, hra⟩ := hv.slice
        obtain ⟨W2, hW2⟩ : ∃ W, W = W1.alloc (.cells #[.string (preN 3), .slice A (preR (Sh.pcF (1 + q)) 3).length c, .int .i64 (preF 3)] 28) := ⟨_, rfl⟩
        have hb2 : Below W1.heap.size W1 W2 := by rw [hW2]; exact (Below.refl _ _).alloc (Nat.le_refl _) _
        have BC := Lib.hid (show Blk W2 W1.heap.size 28 #[.string (preN 3), .slice A (preR (Sh.pcF (1 + q)) 3).length c, .int .i64 (preF 3)] by rw [hW2]; exact Blk.new _ _ _)
        have HR2 := Lib.hid (hra.lt.next hb2)
        have HW2 := Lib.hid hW2
        have HPR := Lib.hid (refPrint_any (preN 3) A c (preR (Sh.pcF (1 + q)) 3) (preF 3) W2 HR2.out y4 (by decide))
        have HB2 := Lib.hid (below_step (below_step HB.out HB.out.size hb1) (Nat.le_trans HB.out.size hb1.size) hb2)
        clear hra hv hb1 hb2 hW2 e1 e2 e3 e4 HG
        go_wp2_with fail
        rw [← HW2.out]
        refine HPR.out.mono ?_
        rintro e W3 ⟨rfl, hb3⟩
        rw [y1]
        have hz : (0 : Int) < (tx (prtL (preN 3) (preR (Sh.pcF (1 + q)) 3) (preF 3))).size := by rw [tx_size]; omega
        have BC3 := BC.out.next hb3
        have q0 := BC3.cell 0
        have q1 := BC3.cell 1
        have q2 := BC3.cell 2
        simp at q0 q1 q2
        have HCP := Lib.hid (refComplete_any (preN 3) A c (preR (Sh.pcF (1 + q)) 3) (preF 3) W3 (HR2.out.next hb3) y4 (by decide))
        have HB3 := Lib.hid (below_step HB2.out HB2.out.size hb3)
        clear hb3 BC3
        generalize tx (prtL (preN 3) (preR (Sh.pcF (1 + q)) 3) (preF 3)) = TL at *
        go_wp2_with fail
        · exact absurd hz (by have h : TL = ByteArray.empty := by assumption
                              rw [h]; decide)
        · refine HCP.out.mono ?_
          rintro e W4 ⟨rfl, hb4⟩
          rw [y3]
          go_wp2_with fail
          exact ⟨⟨3 + 1, by omega, by go_num, below_step HB3.out HB3.out.size hb4⟩, by simp [intOf]⟩
      · simp at c0
        clear BK hlt hk
        have HG := Lib.hid (get14_any (preN 4) (1 + q) (by have := hp.1; omega) (by have := hp.2; omega) wr)
        obtain ⟨e1, e2, e3, e4⟩ := gets_yes (i := 4) (by omega) hp
        obtain ⟨y1, y2⟩ := pre_prt (i := 4) (by omega) hp
        have y3 := pre_cpl (i := 4) (by omega) hp
        have y4 := pre_wf (i := 4) (by omega) hp
        rw [show decide ((4 : Nat) ≠ 3 ∧ (4 : Nat) ≠ 4) = false from rfl] at y3
        have HP := Lib.hid hp
        simp only [preN] at c0
        go_wp2_with fail
        refine (hmod _).mono ?_
        rintro e W1 ⟨rfl, rfl⟩
        go_wp2_with fail
        refine HG.out.mono ?_
        rintro e W1 ⟨v, rfl, hv, hb1⟩
        rw [e1, e3, e4]
        rw [e2] at hv
        obtain ⟨A, c, rfl, hra⟩ := hv.slice
        obtain ⟨W2, hW2⟩ : ∃ W, W = W1.alloc (.cells #[.string (preN 4), .slice A (preR (Sh.pcF (1 + q)) 4).length c, .int .i64 (preF 4)] 28) := ⟨_, rfl⟩
        have hb2 : Below W1.heap.size W1 W2 := by rw [hW2]; exact (Below.refl _ _).alloc (Nat.le_refl _) _
        have BC := Lib.hid (show Blk W2 W1.heap.size 28 #[.string (preN 4), .slice A (preR (Sh.pcF (1 + q)) 4).length c, .int .i64 (preF 4)] by rw [hW2]; exact Blk.new _ _ _)
        have HR2 := Lib.hid (hra.lt.next hb2)
        have HW2 := Lib.hid hW2
        have HPR := Lib.hid (refPrint_any (preN 4) A c (preR (Sh.pcF (1 + q)) 4) (preF 4) W2 HR2.out y4 (by decide))
        have HB2 := Lib.hid (below_step (below_step HB.out HB.out.size hb1) (Nat.le_trans HB.out.size hb1.size) hb2)
        clear hra hv hb1 hb2 hW2 e1 e2 e3 e4 HG
        go_wp2_with fail
        rw [← HW2.out]
        refine HPR.out.mono ?_
        rintro e W3 ⟨rfl, hb3⟩
        rw [y1]
        have hz : (0 : Int) < (tx (prtL (preN 4) (preR (Sh.pcF (1 + q)) 4) (preF 4))).size := by rw [tx_size]; omega
        have BC3 := BC.out.next hb3
        have q0 := BC3.cell 0
        have q1 := BC3.cell 1
        have q2 := BC3.cell 2
        simp at q0 q1 q2
        have HCP := Lib.hid (refComplete_any (preN 4) A c (preR (Sh.pcF (1 + q)) 4) (preF 4) W3 (HR2.out.next hb3) y4 (by decide))
        have HB3 := Lib.hid (below_step HB2.out HB2.out.size hb3)
        clear hb3 BC3
        generalize tx (prtL (preN 4) (preR (Sh.pcF (1 + q)) 4) (preF 4)) = TL at *
        go_wp2_with fail
        · exact absurd hz (by have h : TL = ByteArray.empty := by assumption
                              rw [h]; decide)
        · refine HCP.out.mono ?_
          rintro e W4 ⟨rfl, hb4⟩
          rw [y3]
          go_wp2_with fail
          exact ⟨⟨4 + 1, by omega, by go_num, below_step HB3.out HB3.out.size hb4⟩, by simp [intOf]⟩
      · simp at c0
        clear BK hlt hk
        have HG := Lib.hid (get14_any (preN 5) (1 + q) (by have := hp.1; omega) (by have := hp.2; omega) wr)
        obtain ⟨e1, e2, e3, e4⟩ := gets_yes (i := 5) (by omega) hp
        obtain ⟨y1, y2⟩ := pre_prt (i := 5) (by omega) hp
        have y3 := pre_cpl (i := 5) (by omega) hp
        have y4 := pre_wf (i := 5) (by omega) hp
        rw [show decide ((5 : Nat) ≠ 3 ∧ (5 : Nat) ≠ 4) = true from rfl] at y3
        have HP := Lib.hid hp
        simp only [preN] at c0
        go_wp2_with fail
        refine (hmod _).mono ?_
        rintro e W1 ⟨rfl, rfl⟩
        go_wp2_with fail
        refine HG.out.mono ?_
        rintro e W1 ⟨v, rfl, hv, hb1⟩
        rw [e1, e3, e4]
        rw [e2] at hv
        obtain ⟨A, c, rfl, hra⟩ := hv.slice
        obtain ⟨W2, hW2⟩ : ∃ W, W = W1.alloc (.cells #[.string (preN 5), .slice A (preR (Sh.pcF (1 + q)) 5).length c, .int .i64 (preF 5)] 28) := ⟨_, rfl⟩
        have hb2 : Below W1.heap.size W1 W2 := by rw [hW2]; exact (Below.refl _ _).alloc (Nat.le_refl _) _
        have BC := Lib.hid (show Blk W2 W1.heap.size 28 #[.string (preN 5), .slice A (preR (Sh.pcF (1 + q)) 5).length c, .int .i64 (preF 5)] by rw [hW2]; exact Blk.new _ _ _)
        have HR2 := Lib.hid (hra.lt.next hb2)
        have HW2 := Lib.hid hW2
        have HPR := Lib.hid (refPrint_any (preN 5) A c (preR (Sh.pcF (1 + q)) 5) (preF 5) W2 HR2.out y4 (by decide))
        have HB2 := Lib.hid (below_step (below_step HB.out HB.out.size hb1) (Nat.le_trans HB.out.size hb1.size) hb2)
        clear hra hv hb1 hb2 hW2 e1 e2 e3 e4 HG
        go_wp2_with fail
        rw [← HW2.out]
        refine HPR.out.mono ?_
        rintro e W3 ⟨rfl, hb3⟩
        rw [y1]
        have hz : (0 : Int) < (tx (prtL (preN 5) (preR (Sh.pcF (1 + q)) 5) (preF 5))).size := by rw [tx_size]; omega
        have BC3 := BC.out.next hb3
        have q0 := BC3.cell 0
        have q1 := BC3.cell 1
        have q2 := BC3.cell 2
        simp at q0 q1 q2
        have HCP := Lib.hid (refComplete_any (preN 5) A c (preR (Sh.pcF (1 + q)) 5) (preF 5) W3 (HR2.out.next hb3) y4 (by decide))
        have HB3 := Lib.hid (below_step HB2.out HB2.out.size hb3)
        clear hb3 BC3
        generalize tx (prtL (preN 5) (preR (Sh.pcF (1 + q)) 5) (preF 5)) = TL at *
        go_wp2_with fail
        · exact absurd hz (by have h : TL = ByteArray.empty := by assumption
                              rw [h]; decide)
        · refine HCP.out.mono ?_
          rintro e W4 ⟨rfl, hb4⟩
          rw [y3]
          go_wp2_with fail
          exact ⟨⟨5 + 1, by omega, by go_num, below_step HB3.out HB3.out.size hb4⟩, by simp [intOf]⟩
    · have e6 : k = 6 := by omega
      subst e6
      have HA := Lib.hid (awake14_any wr)
      go_wp2_with fail
      refine HA.out.mono ?_
      rintro e W1 ⟨rfl, hb1⟩
      go_wp2_with fail
      go_ret
      exact ⟨rfl, below_step (below_step HVB.out HVB.out.size HB.out) (Nat.le_trans HVB.out.size HB.out.size) hb1⟩
end Go.Proofs.Ytnoeefbipdpeaaa
