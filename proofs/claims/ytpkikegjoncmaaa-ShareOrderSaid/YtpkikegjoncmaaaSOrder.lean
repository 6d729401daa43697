/-
  The walk of ShareOrder. No conditions.
-/
import Derived.Test.YtpkikegjoncmaaaSExact
namespace Go.Proofs.Ytpkikegjoncmaaa
open Go.RowKit (wrap32 wrap64 intOf)
open Go.RowKit
set_option linter.unusedVariables false
set_option maxRecDepth 100000

/-- A slice of numbers holds a number at place j. -/
def FloatAt (W : World) (B j : Nat) : Prop := ∃ x : Nat, x < 18446744073709551616 ∧ W.cell? ⟨B, j, none⟩ = some (.float .f64 x)
theorem world_named {R : World → Prop} {w : World} (h : ∀ V, V = w → R V) : R w := h _ rfl
theorem order_cases (x y z : Nat) (hx : x < 18446744073709551616) (hy : y < 18446744073709551616) (hz : z < 18446744073709551616) : ∃ c d e : Int, (c ≤ 0 → d ≤ 0 → e ≤ 0) ∧
    (∀ w, Calls Try.prog 26 #[.float .f64 x, .float .f64 y] w fun e w' => e = .returned (.int .i64 c) ∧ w = w') ∧
    (∀ w, Calls Try.prog 26 #[.float .f64 y, .float .f64 z] w fun e w' => e = .returned (.int .i64 d) ∧ w = w') ∧
    (∀ w, Calls Try.prog 26 #[.float .f64 x, .float .f64 z] w fun r w' => r = .returned (.int .i64 e) ∧ w = w') :=
  ⟨_, _, _, ord_trans, order_any x y hx hy, order_any y z hy hz, order_any x z hx hz⟩

set_option maxHeartbeats 3200000 in
theorem walkOrder (a0 a1 a2 a3 a4 a5 : Int) (w0 : (Lit.int .u64 a0).wf = true) (w1 : (Lit.int .u64 a1).wf = true) (w2 : (Lit.int .u64 a2).wf = true) (w3 : (Lit.int .i64 a3).wf = true) (w4 : (Lit.int .i64 a4).wf = true) (w5 : (Lit.int .i64 a5).wf = true) (w : World) :
    Calls Try.prog 6 #[.int .u64 a0, .int .u64 a1, .int .u64 a2, .int .i64 a3, .int .i64 a4, .int .i64 a5] w fun e w' => e = .returned (.bool true) ∧ Grown w w' := by
  obtain ⟨l0, u0⟩ := bounds_u64 w0
  obtain ⟨l1, u1⟩ := bounds_u64 w1
  obtain ⟨l2, u2⟩ := bounds_u64 w2
  obtain ⟨l3, u3⟩ := bounds_i64 w3
  obtain ⟨l4, u4⟩ := bounds_i64 w4
  obtain ⟨l5, u5⟩ := bounds_i64 w5
  clear w0 w1 w2 w3 w4 w5
  obtain ⟨u, rfl⟩ := Int.eq_ofNat_of_zero_le l0
  obtain ⟨v, rfl⟩ := Int.eq_ofNat_of_zero_le l1
  obtain ⟨t, rfl⟩ := Int.eq_ofNat_of_zero_le l2
  have c1 := number_any u a3 (by omega) l3 u3
  have c2 := number_any v a4 (by omega) l4 u4
  have c3 := number_any t a5 (by omega) l5 u5
  have hx := numF_lt (v := u) a3 (by omega)
  have hy := numF_lt (v := v) a4 (by omega)
  have hz := numF_lt (v := t) a5 (by omega)
  generalize numF u a3 = x at *
  generalize numF v a4 = y at *
  generalize numF t a5 = z at *
  have hb := run_frombits (u : Int)
  rw [Int.toNat_natCast] at hb
  have hu : u < 18446744073709551616 := by omega
  clear l0 l1 l2 u0 u1 u2 l3 l4 l5 u3 u4 u5
  go_enter Try.func6, Try.ntmps6
  go_wp2_with fail
  refine (c1 _).mono ?_
  rintro e wa ⟨rfl, hs1⟩
  go_wp2_with fail
  refine (c2 _).mono ?_
  rintro e wb ⟨rfl, hs2⟩
  go_wp2_with fail
  refine (c3 _).mono ?_
  rintro e wc ⟨rfl, hs3⟩
  go_wp2_with fail
  refine (nan_any _).mono ?_
  rintro e w' ⟨rfl, rfl⟩
  have HS := Lib.hid ((hs1.trans hs2).trans hs3)
  clear hs1 hs2 hs3 c1 c2 c3
  go_wp2_with fail
  obtain ⟨W, hW⟩ : ∃ W, W = wc.alloc (Obj.cells #[.float .f64 x, .float .f64 y, .float .f64 z, .float .f64 u, .float .f64 9221120237041090561] 23) := ⟨_, rfl⟩
  have HW := Lib.hid ((HS.out.alloc #[.float .f64 x, .float .f64 y, .float .f64 z, .float .f64 u, .float .f64 9221120237041090561] 23))
  rw [← hW] at HW ⊢
  have k0 : W.cell? ⟨wc.heap.size, 0, none⟩ = some (.float .f64 x) := by subst hW; go_simp
  have k1 : W.cell? ⟨wc.heap.size, 1, none⟩ = some (.float .f64 y) := by subst hW; go_simp
  have k2 : W.cell? ⟨wc.heap.size, 2, none⟩ = some (.float .f64 z) := by subst hW; go_simp
  have k3 : W.cell? ⟨wc.heap.size, 3, none⟩ = some (.float .f64 u) := by subst hW; go_simp
  have k4 : W.cell? ⟨wc.heap.size, 4, none⟩ = some (.float .f64 9221120237041090561) := by subst hW; go_simp
  have HF : Hid (∀ j : Nat, j < 5 → FloatAt W wc.heap.size j) := by
    refine Lib.hid fun j hj => ?_
    have hj' : j = 0 ∨ j = 1 ∨ j = 2 ∨ j = 3 ∨ j = 4 := by omega
    rcases hj' with rfl | rfl | rfl | rfl | rfl
    · exact ⟨_, hx, k0⟩
    · exact ⟨_, hy, k1⟩
    · exact ⟨_, hz, k2⟩
    · exact ⟨_, hu, k3⟩
    · exact ⟨_, by decide, k4⟩
  clear k0 k1 k2 k3 k4 hW hx hy hz hu hb
  generalize wc.heap.size = B at *
  go_loop [35] (fun i => ∃ j : Nat, j ≤ 5 ∧ i = .int .i64 j) (fun i => 5 - (intOf i).toNat)
  case atStart => exact ⟨0, Nat.zero_le _, rfl⟩
  case round =>
    obtain ⟨j, hj, rfl⟩ := hrel
    by_cases hlt : j < 5
    · obtain ⟨p, hp, cp⟩ := HF.out j hlt
      go_wp2_with fail
      go_loop [41] (fun i => ∃ k : Nat, k ≤ 5 ∧ i = .int .i64 k) (fun i => 5 - (intOf i).toNat)
      case atStart => exact ⟨0, Nat.zero_le _, rfl⟩
      case round =>
        obtain ⟨k, hk, rfl⟩ := hrel
        by_cases hkt : k < 5
        · obtain ⟨q, hq, cq⟩ := HF.out k hkt
          have o1 := order_any p q hp hq
          have o2 := refOrder_any p q hp hq
          have o3 := order_any q p hq hp
          rw [ord_neg q p] at o3
          have hr := ord_range p q
          obtain ⟨c, hc⟩ : ∃ c, c = ordF p q := ⟨_, rfl⟩
          rw [← hc] at o1 o2 o3 hr
          have HC := Lib.hid hc
          clear hc
          obtain ⟨d, hd⟩ : ∃ d, d = -c := ⟨_, rfl⟩
          have hd2 : -d = c := by omega
          rw [← hd] at o3
          obtain ⟨hr1, hr2⟩ := hr
          have hd0 : -1 ≤ d ∧ d ≤ 1 := by omega
          obtain ⟨hd3, hd4⟩ := hd0
          clear hd
          go_wp2_with fail
          refine (o1 _).mono ?_
          rintro e w' ⟨rfl, rfl⟩
          go_wp2_with fail
          refine (o2 _).mono ?_
          rintro e w' ⟨rfl, rfl⟩
          go_wp2_with fail
          refine (o1 _).mono ?_
          rintro e w' ⟨rfl, rfl⟩
          go_wp2_with fail
          refine (o3 _).mono ?_
          rintro e w' ⟨rfl, rfl⟩
          clear o1 o2 o3
          go_wp2_with fail
          go_loop [64] (fun i => ∃ l : Nat, l ≤ 5 ∧ i = .int .i64 l) (fun i => 5 - (intOf i).toNat)
          case atStart => exact ⟨0, Nat.zero_le _, rfl⟩
          case round =>
            obtain ⟨l, hl, rfl⟩ := hrel
            by_cases hlt2 : l < 5
            · obtain ⟨r, hr, cr⟩ := HF.out l hlt2
              obtain ⟨e1, e2, e3, he, n1, n2, n3⟩ := order_cases p q r hp hq hr
              by_cases h1 : e1 ≤ 0
              · by_cases h2 : e2 ≤ 0
                · have h3 := he h1 h2
                  clear he
                  go_wp2_with fail
                  refine (n1 _).mono ?_
                  rintro e w' ⟨rfl, rfl⟩
                  go_wp2_with fail
                  refine (n2 _).mono ?_
                  rintro e w' ⟨rfl, rfl⟩
                  go_wp2_with fail
                  refine (n3 _).mono ?_
                  rintro e w' ⟨rfl, rfl⟩
                  go_wp2_with fail
                  go_round
                  case rel => exact ⟨l + 1, by omega, by go_num⟩
                  case measure => simp [intOf]; omega
                · clear he
                  go_wp2_with fail
                  refine (n1 _).mono ?_
                  rintro e w' ⟨rfl, rfl⟩
                  go_wp2_with fail
                  refine (n2 _).mono ?_
                  rintro e w' ⟨rfl, rfl⟩
                  go_wp2_with fail
                  go_round
                  case rel => exact ⟨l + 1, by omega, by go_num⟩
                  case measure => simp [intOf]; omega
              · clear he
                go_wp2_with fail
                refine (n1 _).mono ?_
                rintro e w' ⟨rfl, rfl⟩
                go_wp2_with fail
                go_round
                case rel => exact ⟨l + 1, by omega, by go_num⟩
                case measure => simp [intOf]; omega
            · have hl5 : ¬ (l : Int) < 5 := by omega
              go_wp2_with fail
              go_round
              case rel => exact ⟨k + 1, by omega, by go_num⟩
              case measure => simp [intOf]; omega
        · have hk5 : ¬ (k : Int) < 5 := by omega
          go_wp2_with fail
          go_round
          case rel => exact ⟨j + 1, by omega, by go_num⟩
          case measure => simp [intOf]; omega
    · have hj5 : ¬ (j : Int) < 5 := by omega
      go_wp2_with fail
      refine (awake_any _).mono ?_
      rintro e w' ⟨rfl, rfl⟩
      go_wp2_with fail
      go_ret
      exact ⟨rfl, HW.out.2⟩
end Go.Proofs.Ytpkikegjoncmaaa
