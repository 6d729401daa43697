/-
  The walk of ConfigCaps.
-/
import Derived.Test.YtaeaneakpkkcnaaCPre
import Derived.Test.YtaeaneakpkkcnaaCCap
import Derived.Test.YtaeaneakpkkcnaaCAwk
namespace Go.Proofs.Ytaeaneakpkkcnaa
open Go.RowKit
set_option maxRecDepth 100000
set_option linter.unusedVariables false

theorem frK_zero (n : Int) : Sh.frK 0 n = 0 := by
  unfold Sh.frK
  split
  · split
    · rfl
    · rfl
  · rfl
theorem below_turn {w w1 w2 : World} {dk : Nat} (hb : Below w.heap.size w w1) (hg : w1.grownBy w2 (some dk)) (h : w.heap.size ≤ dk) : Below w.heap.size w w2 := hb.trans (turn_under hg h hb.size)

set_option maxHeartbeats 4000000 in
theorem walkCaps (Al : Option Addr) (nl cl : Nat) (a1 a2 : Int) (w : World) (hL : ListP w w.heap.size Al nl cl) (l1 : -9223372036854775808 ≤ a1) (u1 : a1 ≤ 9223372036854775807) (l2 : -9223372036854775808 ≤ a2) (u2 : a2 ≤ 9223372036854775807) :
    Calls Try.prog 5 #[.slice Al nl cl, .int .i64 a1, .int .i64 a2] w fun e w' => e = .returned (.bool true) ∧ Below w.heap.size w w' := by
  have HL := Lib.hid hL
  clear hL
  go_enter Try.func5, Try.ntmps5
  go_wp2_with fail
  refine (deck_any Al nl cl w HL.out).mono ?_
  rintro e U2 ⟨rfl, hd, hb, hz⟩
  have HDK := Lib.hid hd
  have HBU2 := Lib.hid hb
  clear hd hb
  go_wp2_with fail
  refine (cfg_any w.heap.size U2 HDK.out).mono ?_
  rintro e U3 ⟨s, A, c, R, f, rfl, hra, hwf, hs, hc, hG⟩
  have HBU3 := Lib.hid (below_turn HBU2.out hG (Nat.le_refl _))
  obtain ⟨V, hV⟩ : ∃ V, V = U3.alloc (.cells #[.string s, .slice A R.length c, .int .i64 f] 24) := ⟨_, rfl⟩
  have hbv : Below U3.heap.size U3 V := by rw [hV]; exact (Below.refl _ _).alloc (Nat.le_refl _) _
  have BY := Lib.hid (show Blk V U3.heap.size 24 #[.string s, .slice A R.length c, .int .i64 f] by rw [hV]; exact Blk.new _ _ _)
  have HBV := Lib.hid (below_step HBU3.out HBU3.out.size hbv)
  have HRA := Lib.hid (hra.lt.next hbv)
  have HWF := Lib.hid hwf
  have HC := Lib.hid hc
  have HV := Lib.hid hV
  obtain ⟨n1, n4⟩ : 1 ≤ R.length ∧ R.length ≤ 4 := ⟨(chk_ok hc).2.1, (chk_ok hc).2.2.1⟩
  obtain ⟨k, hk⟩ := Int.eq_ofNat_of_zero_le (Int.emod_nonneg a1 (show (R.length : Int) ≠ 0 by omega))
  have hkl : k < R.length := by have := Int.emod_lt_of_pos a1 (show 0 < (R.length : Int) by omega); omega
  obtain ⟨r, hr⟩ := gt_of hkl
  have hru := (chk_ok hc).2.2.2.1 k r hr
  have hle := okF_le (ruleE_ok hru).1
  have hkc := fun n => cap_yes (n := n) hc hr
  have h63 := Int.emod_nonneg a2 (show (63 : Int) ≠ 0 by decide)
  have h64 := Int.emod_lt_of_pos a2 (show (0 : Int) < 63 by decide)
  have md1 := fun W => mod_any a1 R.length (by omega) (by omega) l1 u1 W
  have md2 := fun W => mod_any a2 63 (by decide) (by decide) l2 u2 W
  rw [hk] at md1
  obtain ⟨m, hm⟩ : ∃ m, m = a2 % 63 := ⟨_, rfl⟩
  rw [← hm] at md2 h63 h64
  have HR := Lib.hid hr
  clear hV hbv hra hwf hc hG hru hm hk hr
  have w1 : IntKind.i64.wrap (1 + m) = 1 + m := IntWalk.i64_in _ (by omega)
  have w2 : IntKind.i64.wrap (1 + m + 1) = 1 + m + 1 := IntWalk.i64_in _ (by omega)
  have e1 := hkc (1 + m)
  have e2 := hkc (1 + m + 1)
  have g1 : Sh.frE r.s (1 + m) = 0 := Sh.frE_in hle (by omega) (by omega)
  have g2 : Sh.frE r.s (1 + m + 1) = 0 := Sh.frE_in hle (by omega) (by omega)
  have x01 : (r.s = 0 ∧ Sh.frK r.s (1 + m) = 0 ∧ Sh.frK r.s (1 + m + 1) = 0 ∧ FloatKind.f64.format.order r.s 0 = some .eq) ∨ (r.s ≠ 0 ∧ 1 ≤ Sh.frK r.s (1 + m) ∧ Sh.frK r.s (1 + m) ≤ Sh.frK r.s (1 + m + 1) ∧ Sh.frK r.s (1 + m) ≤ 1 + m ∧ FloatKind.f64.format.order r.s 0 = some .gt) := by
    by_cases h0 : r.s = 0
    · rw [h0]
      exact .inl ⟨rfl, frK_zero _, frK_zero _, Sh.fo_eq (by decide) (by decide) rfl⟩
    · have h1 := Sh.fr_mono (x := r.s) (y := r.s) (n := 1 + m) (m := 1 + m + 1) (Nat.le_refl _) h0 hle (by omega) (by omega) (by omega)
      exact .inr ⟨h0, h1.1, h1.2, (Sh.fr_le hle h0 (by omega) (by omega)).2, Sh.fo_zero (by omega) hle⟩
  have c1 := fun W hW => cap_any s A c R f k (1 + m) W hW HWF.out
  have c2 := fun W hW => cap_any s A c R f k (1 + m + 1) W hW HWF.out
  rw [e1.1, e1.2, g1] at c1
  rw [e2.1, e2.2, g2] at c2
  have hk2 : 0 ≤ (k : Int) ∧ (k : Int) < R.length := by omega
  have HAT := Lib.hid (fun (W : World) (h : RArr W (Lt W.heap.size) A c R) => h.at_ HR.out)
  have p0 := BY.out.cell 0
  have p1 := BY.out.cell 1
  have p2 := BY.out.cell 2
  simp at p0 p1 p2
  clear e1 e2 g1 g2 hkc hle
  generalize Sh.frK r.s (1 + m) = x at *
  generalize Sh.frK r.s (1 + m + 1) = y at *
  generalize r.s = z at *
  go_wp2_with fail
  rw [← HV.out]
  refine (md1 _).mono ?_
  rintro e w' ⟨rfl, rfl⟩
  clear md1
  go_wp2_with fail
  refine (md2 _).mono ?_
  rintro e w' ⟨rfl, rfl⟩
  clear md2
  go_wp2_with fail
  refine (c1 _ HRA.out).mono ?_
  rintro e V1 ⟨rfl, hb1⟩
  have HB1 := Lib.hid (below_step HBV.out HBV.out.size hb1)
  have BY1 := Lib.hid (BY.out.next hb1)
  have HRA1 := Lib.hid (HRA.out.next hb1)
  clear c1 hb1 p0 p1 p2
  have p0 := BY1.out.cell 0
  have p1 := BY1.out.cell 1
  have p2 := BY1.out.cell 2
  simp at p0 p1 p2
  go_wp2_with fail
  refine (c2 _ HRA1.out).mono ?_
  rintro e V2 ⟨rfl, hb2⟩
  have HB2 := Lib.hid (below_step HB1.out HB1.out.size hb2)
  have BY2 := Lib.hid (BY1.out.next hb2)
  have HRA2 := Lib.hid (HRA1.out.next hb2)
  clear c2 hb2 p0 p1 p2
  have p0 := BY2.out.cell 0
  have p1 := BY2.out.cell 1
  have p2 := BY2.out.cell 2
  simp at p0 p1 p2
  obtain ⟨g, o, rfl, _, _, d0, _⟩ := HAT.out V2 HRA2.out
  have aw := fun W => awake_any W
  rcases x01 with ⟨h0, rfl, rfl, e0⟩ | ⟨h0, x1, x2, x3, e0⟩
  · have h0m : (0 : Int) ≤ 1 + m := by omega
    go_wp2_with fail
    refine (aw _).mono ?_
    rintro e V3 ⟨rfl, hb3⟩
    have HB3 := Lib.hid (below_step HB2.out HB2.out.size hb3)
    clear aw hb3
    go_wp2
    go_ret
    exact ⟨rfl, HB3.out⟩
  · have hx0 : (x == 0) = false := by simp; omega
    have hy0 : (y == 0) = false := by simp; omega
    have hxy : ¬ y < x := by omega
    have hxp : 0 ≤ x := by omega
    go_wp2_with fail
    refine (aw _).mono ?_
    rintro e V3 ⟨rfl, hb3⟩
    have HB3 := Lib.hid (below_step HB2.out HB2.out.size hb3)
    clear aw hb3
    go_wp2
    go_ret
    exact ⟨rfl, HB3.out⟩
end Go.Proofs.Ytaeaneakpkkcnaa
