/-
  Merged: Val, Link, Valid.
-/
import Derived.Test.YtjkbjbikofindaaMBase
namespace Go.Proofs.Ytjkbjbikofindaa
set_option maxRecDepth 100000
open Go.RowKit
set_option linter.unusedVariables false

theorem isStamp_any (st ow : Int) (w : World) :
    Calls Try.prog 69 #[.int .i64 st, .int .i64 ow] w fun e w' => e = .returned (.bool (stB st ow)) ∧ w = w' := by
  by_cases h1 : ow < 0
  · go_enter Try.func69, Try.ntmps69
    go_wp2
    go_ret
    exact ⟨ret_bool (stB_not (by omega)), rfl⟩
  · by_cases h2 : 4294967295 < ow
    · go_enter Try.func69, Try.ntmps69
      go_wp2
      go_ret
      exact ⟨ret_bool (stB_not (by omega)), rfl⟩
    · have h3 : 0 ≤ ow ∧ ow ≤ 4294967295 := by omega
      go_enter Try.func69, Try.ntmps69
      go_wp2
      go_loop [5, 12] (fun _ i => ∃ j : Nat, j ≤ 4 ∧ i = .int .i64 j ∧ ∀ b : Nat, b < j → st ≠ ow + b * 4294967296) (fun _ i => 4 - (intOf i).toNat)
      case atStart => exact ⟨0, by omega, rfl, fun b hb => by omega⟩
      case round =>
        obtain ⟨j, hj, rfl, hne⟩ := hrel
        have HN := Lib.hid hne
        clear hne
        rcases j with _ | _ | _ | _ | _ | j
        · by_cases ht : st = ow
          · subst ht
            go_wp2
            go_ret
            exact ⟨ret_bool (stB_of (by omega)), rfl⟩
          · have hb : (st == ow) = false := by simpa using ht
            go_wp2
            refine ⟨⟨1, by omega, rfl, fun b hb => ?_⟩, by simp [intOf]⟩
            have h4 := HN.out b
            rcases (show b < 0 ∨ b = 0 by omega) with h5 | rfl
            · exact h4 h5
            · simpa using ht
        · by_cases ht : st = ow + 4294967296
          · subst ht
            go_wp2
            go_ret
            exact ⟨ret_bool (stB_of (by omega)), rfl⟩
          · have hb : (st == ow + 4294967296) = false := by simpa using ht
            go_wp2
            refine ⟨⟨2, by omega, rfl, fun b hb => ?_⟩, by simp [intOf]⟩
            have h4 := HN.out b
            rcases (show b < 1 ∨ b = 1 by omega) with h5 | rfl
            · exact h4 h5
            · simpa using ht
        · by_cases ht : st = ow + 8589934592
          · subst ht
            go_wp2
            go_ret
            exact ⟨ret_bool (stB_of (by omega)), rfl⟩
          · have hb : (st == ow + 8589934592) = false := by simpa using ht
            go_wp2
            refine ⟨⟨3, by omega, rfl, fun b hb => ?_⟩, by simp [intOf]⟩
            have h4 := HN.out b
            rcases (show b < 2 ∨ b = 2 by omega) with h5 | rfl
            · exact h4 h5
            · simpa using ht
        · by_cases ht : st = ow + 12884901888
          · subst ht
            go_wp2
            go_ret
            exact ⟨ret_bool (stB_of (by omega)), rfl⟩
          · have hb : (st == ow + 12884901888) = false := by simpa using ht
            go_wp2
            refine ⟨⟨4, by omega, rfl, fun b hb => ?_⟩, by simp [intOf]⟩
            have h4 := HN.out b
            rcases (show b < 3 ∨ b = 3 by omega) with h5 | rfl
            · exact h4 h5
            · simpa using ht
        · have e0 := HN.out 0 (by omega)
          have e1 := HN.out 1 (by omega)
          have e2 := HN.out 2 (by omega)
          have e3 := HN.out 3 (by omega)
          go_wp2
          go_ret
          exact ⟨ret_bool (stB_not (by omega)), rfl⟩
        · omega

set_option maxHeartbeats 1000000 in
theorem isOwned_any (A : Option Addr) (n c : Nat) (F : Nat → Fr) (f : Nat) (w : World) (hT : Tab w w.heap.size A n c F) (hf : f < n) (hn : n ≤ 80) :
    Calls Try.prog 47 #[.slice A n c, .int .i64 f] w fun e w' => e = .returned (.bool (ownB n F f)) ∧ Below w.heap.size w w' := by
  obtain ⟨b, o, rfl, hb⟩ := hT.base_ (by omega)
  obtain ⟨_, c0, c1, c2⟩ := hT.cells f hf
  have H := Lib.hid hT
  have hf2 : 0 ≤ (f : Int) ∧ (f : Int) < n := by omega
  clear hT
  rcases hs : stB (F f).st (F f).ow with _ | _
  · have HS := Lib.hid hs
    clear hs
    go_enter Try.func47, Try.ntmps47
    go_wp2_with (go_at_call 69; refine (isStamp_any _ _ _).mono ?_; rintro e w' ⟨rfl, rfl⟩; rw [HS.out])
    go_ret
    exact ⟨ret_bool (by simp [ownB, HS.out]), (Below.refl _ _).alloc (Nat.le_refl _) _⟩
  · by_cases hx : (F f).nx = -1
    · rw [hx] at c2
      have HS := Lib.hid hs
      have HX := Lib.hid hx
      clear hs hx
      go_enter Try.func47, Try.ntmps47
      go_wp2_with (go_at_call 69; refine (isStamp_any _ _ _).mono ?_; rintro e w' ⟨rfl, rfl⟩; rw [HS.out])
      go_ret
      exact ⟨ret_bool (by simp [ownB, HS.out, HX.out]), (Below.refl _ _).alloc (Nat.le_refl _) _⟩
    · rcases hi : inB n (F f).nx with _ | _
      · have hv : ownB n F f = false := by simp [ownB, hs, hi, hx]
        obtain ⟨x, hxx⟩ : ∃ x, x = (F f).nx := ⟨_, rfl⟩
        rw [hv]
        rw [← hxx] at c2 hi hx
        have hb1 : (x == -1) = false := by simpa using hx
        have HS := Lib.hid hs
        have HI := Lib.hid hi
        clear hs hi hv hxx hx
        go_enter Try.func47, Try.ntmps47
        go_wp2_with (first
          | (go_at_call 69; refine (isStamp_any _ _ _).mono ?_; rintro e w' ⟨rfl, rfl⟩; rw [HS.out])
          | (go_at_call 70; refine (isFrame_any _ _ _ _ _).mono ?_; rintro e w' ⟨rfl, rfl⟩; rw [HI.out]))
        go_ret
        exact ⟨rfl, (Below.refl _ _).alloc (Nat.le_refl _) _⟩
      · obtain ⟨g0, g1⟩ := inB_yes hi
        obtain ⟨g, hg⟩ : ∃ g : Nat, (F f).nx = g := ⟨(F f).nx.toNat, by omega⟩
        have hv : ownB n F f = (decide ((g : Int) ≠ f) && decide ((F g).ow = (F f).ow) && decide ((F g).st = (F f).st)) := by
          rw [hg] at hi hx
          simp [ownB, hs, hi, hg]
        rw [hv]
        rw [hg] at c2 hi hx g1
        have gn : g < n := by omega
        obtain ⟨_, d0, d1, d2⟩ := H.out.cells g gn
        have hb1 : ((g : Int) == -1) = false := by simp
        have HS := Lib.hid hs
        have HI := Lib.hid hi
        have gn2 : 0 ≤ (g : Int) ∧ (g : Int) < n := by omega
        clear hs hi hv hg hx g0 g1
        by_cases e1 : (g : Int) = f
        · have : g = f := by omega
          subst this
          have v1 : (decide ((g : Int) ≠ g) && decide ((F g).ow = (F g).ow) && decide ((F g).st = (F g).st)) = false := by simp
          rw [v1]
          clear v1 e1 d0 d1 d2
          go_enter Try.func47, Try.ntmps47
          go_wp2_with (first
            | (go_at_call 69; refine (isStamp_any _ _ _).mono ?_; rintro e w' ⟨rfl, rfl⟩; rw [HS.out])
            | (go_at_call 70; refine (isFrame_any _ _ _ _ _).mono ?_; rintro e w' ⟨rfl, rfl⟩; rw [HI.out]))
          go_ret
          exact ⟨rfl, (Below.refl _ _).alloc (Nat.le_refl _) _⟩
        · have hb2 : ((g : Int) == (f : Int)) = false := by simpa using e1
          have v1 : decide ((g : Int) ≠ f) = true := decide_eq_true e1
          rw [v1]
          obtain ⟨a, ha⟩ : ∃ a, a = (F g).ow := ⟨_, rfl⟩
          obtain ⟨b', hb'⟩ : ∃ b, b = (F g).st := ⟨_, rfl⟩
          obtain ⟨a2, ha2⟩ : ∃ a, a = (F f).ow := ⟨_, rfl⟩
          obtain ⟨b2, hb2'⟩ : ∃ b, b = (F f).st := ⟨_, rfl⟩
          rw [← ha, ← hb', ← ha2, ← hb2'] 
          rw [← ha] at d0
          rw [← hb'] at d1
          rw [← ha2] at c0
          rw [← hb2'] at c1
          rw [← ha2, ← hb2'] at HS
          clear ha hb' ha2 hb2' v1 e1
          by_cases k1 : a = a2
          · subst k1
            by_cases k2 : b' = b2
            · subst k2
              go_enter Try.func47, Try.ntmps47
              go_wp2_with (first
                | (go_at_call 69; refine (isStamp_any _ _ _).mono ?_; rintro e w' ⟨rfl, rfl⟩; rw [HS.out])
                | (go_at_call 70; refine (isFrame_any _ _ _ _ _).mono ?_; rintro e w' ⟨rfl, rfl⟩; rw [HI.out]))
              go_ret
              exact ⟨ret_bool (by simp), ((Below.refl _ _).alloc (Nat.le_refl _) _).alloc (by simp) _⟩
            · have kb : (b' == b2) = false := by simpa using k2
              go_enter Try.func47, Try.ntmps47
              go_wp2_with (first
                | (go_at_call 69; refine (isStamp_any _ _ _).mono ?_; rintro e w' ⟨rfl, rfl⟩; rw [HS.out])
                | (go_at_call 70; refine (isFrame_any _ _ _ _ _).mono ?_; rintro e w' ⟨rfl, rfl⟩; rw [HI.out]))
              go_ret
              exact ⟨ret_bool (by simp [k2]), ((Below.refl _ _).alloc (Nat.le_refl _) _).alloc (by simp) _⟩
          · have kb : (a == a2) = false := by simpa using k1
            go_enter Try.func47, Try.ntmps47
            go_wp2_with (first
              | (go_at_call 69; refine (isStamp_any _ _ _).mono ?_; rintro e w' ⟨rfl, rfl⟩; rw [HS.out])
              | (go_at_call 70; refine (isFrame_any _ _ _ _ _).mono ?_; rintro e w' ⟨rfl, rfl⟩; rw [HI.out]))
            go_ret
            exact ⟨ret_bool (by simp [k1]), ((Below.refl _ _).alloc (Nat.le_refl _) _).alloc (by simp) _⟩

set_option maxHeartbeats 1000000 in
theorem isFree_any (k : Nat) (A A' : Option Addr) (nw c n c' : Nat) (wd : Nat → Int) (F : Nat → Fr) (f : Nat) (w : World) (hA : Arr w w.heap.size A nw c wd) (hT : Tab w w.heap.size A' n c' F) (h1 : 3 ≤ k) (h2 : k ≤ 8) (hn : n ≤ 64) (hf : f < n) (hw : nw = n * 2 ^ k) :
    Calls Try.prog 46 #[.agg #[.int .i64 k, .slice A nw c, .slice A' n c'], .int .i64 f] w fun e w' => e = .returned (.bool (frB (F f) frFree && zeroB wd k f)) ∧ Below w.heap.size w w' := by
  obtain ⟨b, o, rfl, hb⟩ := hT.base_ (by omega)
  obtain ⟨_, c0, c1, c2⟩ := hT.cells f hf
  have hf2 : 0 ≤ (f : Int) ∧ (f : Int) < n := by omega
  have HA := Lib.hid hA
  clear hA hT
  have z1 : w.heap.size < (w.alloc (.cells #[.int .i64 k, .slice A nw c, .slice (some ⟨b, o, none⟩) n c'] 25)).heap.size := by simp
  obtain ⟨W, hW⟩ : ∃ W, W = w.alloc (.cells #[.int .i64 k, .slice A nw c, .slice (some ⟨b, o, none⟩) n c'] 25) := ⟨_, rfl⟩
  have BX : Blk W w.heap.size 25 #[.int .i64 k, .slice A nw c, .slice (some ⟨b, o, none⟩) n c'] := by rw [hW]; exact Blk.new _ _ _
  have p0 := BX.cell 0
  have p1 := BX.cell 1
  have p2 := BX.cell 2
  simp at p0 p1 p2
  have b0 : W.cell? ⟨b, o + f * 3, none⟩ = some (.int .i64 (F f).ow) := by rw [hW, ← c0]; go_simp
  have b1 : W.cell? ⟨b, o + f * 3 + 1, none⟩ = some (.int .i64 (F f).st) := by rw [hW, ← c1]; go_simp
  have b2 : W.cell? ⟨b, o + f * 3 + 2, none⟩ = some (.int .i64 (F f).nx) := by rw [hW, ← c2]; go_simp
  have zb : b < W.heap.size := by rw [hW]; simp; omega
  have zw : w.heap.size < W.heap.size := by rw [hW]; simp
  have HBW : Hid (Below w.heap.size w W) := by rw [hW]; exact (Below.refl _ _).alloc (Nat.le_refl _) _
  have HAW : Hid (Arr W W.heap.size A nw c wd) := HA.out.next HBW.out
  have HW := Lib.hid hW
  have HN := Lib.hid hw
  have hne : ∀ W, (binOp .neq 61 (.agg #[.int .i64 (F f).ow, .int .i64 (F f).st, .int .i64 (F f).nx]) (.agg #[.int .i64 (-1), .int .i64 (-1), .int .i64 (-1)])).run Try.prog W = .ok (.bool (!(frB (F f) frFree))) W := fun W => run_neq_frame (F f).ow (F f).st (F f).nx (-1) (-1) (-1) W
  rcases hfr : frB (F f) frFree with _ | _
  · rw [hfr] at hne
    clear hW z1 c0 c1 c2 hw
    obtain ⟨x0, hx0⟩ : ∃ x, x = (F f).ow := ⟨_, rfl⟩
    obtain ⟨x1, hx1⟩ : ∃ x, x = (F f).st := ⟨_, rfl⟩
    obtain ⟨x2, hx2⟩ : ∃ x, x = (F f).nx := ⟨_, rfl⟩
    rw [← hx0, ← hx1, ← hx2] at hne
    rw [← hx0] at b0
    rw [← hx1] at b1
    rw [← hx2] at b2
    clear hx0 hx1 hx2 hfr
    go_enter Try.func46, Try.ntmps46
    go_wp2
    rw [← HW.out]
    go_region_held3 (fun w' => w'.cell? ⟨w.heap.size, 0, none⟩ = some (.int .i64 k) ∧ w'.cell? ⟨w.heap.size, 1, none⟩ = some (.slice A nw c) ∧ w'.cell? ⟨w.heap.size, 2, none⟩ = some (.slice (some ⟨b, o, none⟩) n c') ∧ w'.cell? ⟨b, o + f * 3, none⟩ = some (.int .i64 x0) ∧ w'.cell? ⟨b, o + f * 3 + 1, none⟩ = some (.int .i64 x1) ∧ w'.cell? ⟨b, o + f * 3 + 2, none⟩ = some (.int .i64 x2))
      (first | exact ⟨p0, p1, p2, b0, b1, b2⟩ | exact ⟨(hb1.cell (p := ⟨_, 0, none⟩) zw).trans p0, (hb1.cell (p := ⟨_, 1, none⟩) zw).trans p1, (hb1.cell (p := ⟨_, 2, none⟩) zw).trans p2, (hb1.cell (p := ⟨_, _, none⟩) zb).trans b0, (hb1.cell (p := ⟨_, _, none⟩) zb).trans b1, (hb1.cell (p := ⟨_, _, none⟩) zb).trans b2⟩)
      (first | (go_at_call 68; refine (freeFrame_any _).mono ?_; rintro e w1 ⟨rfl, hb1⟩))
    have HB1 := Lib.hid hb1
    clear hb1
    go_wp2
    go_ret
    exact ⟨rfl, below_next HBW.out.drew (Nat.le_refl _) HB1.out⟩
  · rw [hfr] at hne
    have hF := frB_yes hfr
    rw [hF] at hne b0 b1 b2
    change ∀ W : World, (binOp .neq 61 (.agg #[.int .i64 (-1), .int .i64 (-1), .int .i64 (-1)]) (.agg #[.int .i64 (-1), .int .i64 (-1), .int .i64 (-1)])).run Try.prog W = .ok (.bool false) W at hne
    change W.cell? ⟨b, o + f * 3, none⟩ = some (.int .i64 (-1)) at b0
    change W.cell? ⟨b, o + f * 3 + 1, none⟩ = some (.int .i64 (-1)) at b1
    change W.cell? ⟨b, o + f * 3 + 2, none⟩ = some (.int .i64 (-1)) at b2
    clear hW z1 c0 c1 c2 hw hfr hF
    go_enter Try.func46, Try.ntmps46
    go_wp2
    rw [← HW.out]
    go_region_held3 (fun w' => w'.cell? ⟨w.heap.size, 0, none⟩ = some (.int .i64 k) ∧ w'.cell? ⟨w.heap.size, 1, none⟩ = some (.slice A nw c) ∧ w'.cell? ⟨w.heap.size, 2, none⟩ = some (.slice (some ⟨b, o, none⟩) n c') ∧ w'.cell? ⟨b, o + f * 3, none⟩ = some (.int .i64 (-1)) ∧ w'.cell? ⟨b, o + f * 3 + 1, none⟩ = some (.int .i64 (-1)) ∧ w'.cell? ⟨b, o + f * 3 + 2, none⟩ = some (.int .i64 (-1)))
      (first | exact ⟨p0, p1, p2, b0, b1, b2⟩ | exact ⟨(hb1.cell (p := ⟨_, 0, none⟩) zw).trans p0, (hb1.cell (p := ⟨_, 1, none⟩) zw).trans p1, (hb1.cell (p := ⟨_, 2, none⟩) zw).trans p2, (hb1.cell (p := ⟨_, _, none⟩) zb).trans b0, (hb1.cell (p := ⟨_, _, none⟩) zb).trans b1, (hb1.cell (p := ⟨_, _, none⟩) zb).trans b2⟩)
      (first | (go_at_call 68; refine (freeFrame_any _).mono ?_; rintro e w1 ⟨rfl, hb1⟩))
    have HB1 := Lib.hid hb1
    have z2 : b < w1.heap.size := by have := hb1.size; simp at this; omega
    have q0 := (hb1.cell (p := ⟨w.heap.size, 0, none⟩) zw).trans p0
    have q1 := (hb1.cell (p := ⟨w.heap.size, 1, none⟩) zw).trans p1
    clear hb1 p0 p1 p2 b0 b1 b2 hne
    have pk := Nat.two_pow_pos k
    have hle : (f + 1) * 2 ^ k ≤ nw := by rw [HN.out]; exact Nat.mul_le_mul_right _ (by omega)
    have hsum : (f + 1) * 2 ^ k = f * 2 ^ k + 2 ^ k := by rw [Nat.add_mul]; omega
    have hlen : nw ≤ 16384 := by rw [HN.out]; exact prod_le hn h2
    have hcap := HAW.out.1
    have hmax := HAW.out.2.1
    unfold maxLen at hmax
    obtain ⟨ab, ao, rfl, hab, hcells⟩ := HAW.out.2.2.2 (by omega)
    obtain ⟨p, hp⟩ : ∃ p, p = f * 2 ^ k := ⟨_, rfl⟩
    obtain ⟨z, hz⟩ : ∃ z, z = 2 ^ k := ⟨_, rfl⟩
    have s2 : (f : Int) * 2 ^ k = p := by rw [hp]; simp
    have s3 : ((f : Int) + 1) * 2 ^ k = ((p + z : Nat) : Int) := by rw [hp, hz, ← hsum]; simp
    have hle2 : p + z ≤ nw := by rw [hp, hz, ← hsum]; exact hle
    rw [← hz] at pk
    have s1 : IntKind.i64.wrap ((f : Int) + 1) = f + 1 := IntWalk.i64_in _ (by omega)
    have s4 : IntKind.i64.wrap ((f : Int) * 2 ^ k) = p := by rw [s2]; exact IntWalk.i64_in _ (by omega)
    have s5 : IntKind.i64.wrap (((f : Int) + 1) * 2 ^ k) = ((p + z : Nat) : Int) := by rw [s3]; exact IntWalk.i64_in _ (by omega)
    have HP := Lib.hid hp
    have HZ := Lib.hid hz
    have HC := Lib.hid hcells
    clear hp hz hsum hle s2 s3 hcells
    go_wp2
    go_quiet (fail)
    clear s1 s4 s5 q0 q1
    go_wp2
    have HBZ := Lib.hid (below_next HBW.out.drew (Nat.le_refl _) HB1.out)
    have zz : p + z - p = z := by omega
    have HBZ2 : Hid (Below w.heap.size w (w1.drewN nq)) := HBZ.out.trans ⟨rfl, rfl, rfl, Nat.le_refl _, fun _ _ => rfl⟩
    obtain ⟨V, hV⟩ : ∃ V, V = w1.drewN nq := ⟨_, rfl⟩
    have hc2 : ∀ j, j < z → V.cell? ⟨ab, ao + p + j, none⟩ = some (.int .u64 (wd (p + j))) := by
      intro j hj
      rw [hV, Nat.add_assoc]
      exact (HB1.out.cell (p := ⟨ab, _, none⟩) hab).trans (HC.out (p + j) (by omega))
    rw [← hV] at HBZ2 ⊢
    have HC2 := Lib.hid hc2
    have Z2 : 0 ≤ (z : Int) := by omega
    clear HC HBZ hV hc2
    go_loop [6, 27] (fun _ i => ∃ t : Nat, t ≤ z ∧ i = .int .i64 t ∧ ∀ a, a < t → wd (p + a) = 0) (fun _ i => z - (intOf i).toNat)
    case atStart => exact ⟨0, by omega, rfl, fun a ha => by omega⟩
    case round =>
      obtain ⟨t, ht, rfl, hzero⟩ := hrel
      have H0 := Lib.hid hzero
      clear hzero
      by_cases hlt : t < z
      · have hc := HC2.out t hlt
        have hi : 0 ≤ (t : Int) ∧ (t : Int) < ((p + z - p : Nat) : Int) := by omega
        have hlt2 : (t : Int) < z := by omega
        obtain ⟨x, hx⟩ : ∃ x, x = wd (p + t) := ⟨_, rfl⟩
        rw [← hx] at hc
        by_cases hx0 : x = 0
        · subst hx0
          have HX := Lib.hid hx
          clear hx
          go_wp2
          refine ⟨⟨t + 1, by omega, by go_num, fun a ha => ?_⟩, by simp [intOf]; omega⟩
          rcases (show a < t ∨ a = t by omega) with h | rfl
          · exact H0.out a h
          · exact HX.out.symm
        · have hb : (x == 0) = false := by simpa using hx0
          have HX : Hid (zeroB wd k f = false) := by
            refine decide_eq_false fun h => hx0 ?_
            rw [hx, HP.out]
            exact h t (by rw [← HZ.out]; exact hlt)
          clear hx hx0
          go_wp2
          go_ret
          exact ⟨ret_bool (by rw [HX.out]), HBZ2.out⟩
      · obtain rfl : t = z := by omega
        have HX : Hid (zeroB wd k f = true) := by
          refine decide_eq_true fun a ha => ?_
          rw [← HP.out]
          exact H0.out a (by rw [HZ.out]; exact ha)
        have hlt2 : ¬ (t : Int) < t := by omega
        go_wp2
        go_ret
        exact ⟨ret_bool (by rw [HX.out]), HBZ2.out⟩
end Go.Proofs.Ytjkbjbikofindaa

namespace Go.Proofs.Ytjkbjbikofindaa
set_option maxRecDepth 100000
open Go.RowKit
set_option linter.unusedVariables false

theorem Row.lit {w : World} {cs : Array Value} {t : TypeId} {v : Value} {N : Nat} (h : cs = Array.replicate N v) : Row (w.alloc (.cells cs t)) w.heap.size t N (fun _ => v) := by
  subst h
  refine ⟨_, heap_alloc_new w _, by simp, fun j hj => ?_⟩
  simp [hj]

/-- What holds while the frames that follow others are marked. -/
def MarkAt (F : Nat → Fr) (n : Nat) (w : World) (g : Nat) (i : Value) (wr : World) : Prop :=
  ∃ t : Nat, t ≤ n ∧ i = .int .i64 t ∧ SingleTo F t ∧ Row wr g 109 64 (fun j => .bool (fol F t j)) ∧ Below w.heap.size w wr

/-- What holds while the chains are counted. -/
def CountAt (F : Nat → Fr) (n : Nat) (r i : Value) : Prop := ∃ t : Nat, t ≤ n ∧ i = .int .i64 t ∧ r = .int .i64 ((cov F n t).length : Nat)
/-- What holds along one chain. -/
def AlongAt (F : Nat → Fr) (n t : Nat) (r f : Value) : Prop :=
  ∃ i : Nat, i ≤ n ∧ f = .int .i64 (iter F i t) ∧ r = .int .i64 ((cov F n t).length + i : Nat) ∧ ∀ j, j < i → iter F j t ≠ -1

set_option maxHeartbeats 2000000 in
theorem links_any (A : Option Addr) (n c : Nat) (F : Nat → Fr) (w : World) (hT : Tab w w.heap.size A n c F) (hn : n ≤ 64) (hi : Inside F n) :
    Calls Try.prog 48 #[.slice A n c] w fun e w' => e = .returned (.bool (linkB F n)) ∧ Below w.heap.size w w' := by
  have HT := Lib.hid hT
  have HI := Lib.hid hi
  clear hT hi
  go_enter Try.func48, Try.ntmps48
  go_wp2
  go_loopw [5, 11] (fun _ i wr => MarkAt F n w w.heap.size i wr) (fun _ i _ => n - (intOf i).toNat)
  case atStart =>
    refine ⟨0, by omega, rfl, singleTo_zero, Row.congr (f := fun _ => .bool false) ?_ (fun j _ => rfl), (Below.refl _ _).alloc (Nat.le_refl _) _⟩
    exact Row.lit (by rfl)
  case round =>
    obtain ⟨t, ht, rfl, hs, hr, hb⟩ := hrel
    obtain ⟨g, hg⟩ : ∃ g, g = w.heap.size := ⟨_, rfl⟩
    have hgz : g < wr.heap.size := by rw [hg]; exact hr.lt
    rw [← hg] at hr ⊢
    have HG := Lib.hid hg
    have HB := Lib.hid hb
    have HR := Lib.hid hr
    have HS := Lib.hid hs
    clear hg hb hr hs
    by_cases hlt : t < n
    · obtain ⟨b, o, rfl, hbb⟩ := HT.out.base_ (by omega)
      obtain ⟨_, c0, c1, c2⟩ := ((HT.out.below HB.out)).cells t hlt
      have hbw : b < wr.heap.size := by have := HB.out.size; omega
      have hlt2 : 0 ≤ (t : Int) ∧ (t : Int) < n := by omega
      by_cases hx : (F t).nx = -1
      · rw [hx] at c2
        have HN : Hid (MarkAt F n w g (.int .i64 ((t : Int) + 1)) (wr.alloc (.cells #[.int .i64 (F t).ow, .int .i64 (F t).st, .int .i64 (-1)] 61))) :=
          ⟨t + 1, by omega, by go_num, singleTo_none HS.out hx, (HR.out.next ((Below.refl _ _).alloc (Nat.le_refl _) _)).congr (fun j _ => by rw [fol_none hx]), HB.out.alloc HB.out.size _⟩
        clear hx
        go_wp2
        go_roundw
        case rel => exact HN.out
        case measure => simp [intOf]; omega
      · rcases HI.out t hlt with h | ⟨y0, y1⟩
        · exact absurd h hx
        · obtain ⟨y, hy⟩ : ∃ y : Nat, (F t).nx = y := ⟨(F t).nx.toNat, by omega⟩
          rw [hy] at c2 hx y0 y1
          have y64 : y < 64 := by omega
          have yb : 0 ≤ (y : Int) ∧ (y : Int) < 64 := by omega
          have d0 := HR.out.cell y y64
          have d1 := HR.out.free y
          rcases hf : fol F t y with _ | _
          · rw [hf] at d0
            have HY := Lib.hid hy
            have HF := Lib.hid hf
            clear hy hf hx
            have hnew : Row ((wr.setCell ⟨g, y, none⟩ (.bool true)).alloc (.cells #[.int .i64 (F t).ow, .int .i64 (F t).st, .int .i64 y] 61)) g 109 64 (fun j => .bool (fol F (t + 1) j)) :=
              ((HR.out.set_ y y64 (.bool true)).next ((Below.refl _ _).alloc (Nat.le_refl _) _)).congr (fun j _ => by
                rw [fol_set HY.out]
                by_cases e : j = y
                · rw [if_pos e, if_pos e]
                · rw [if_neg e, if_neg e])
            have HN := Lib.hid hnew
            have HBN : Hid (Below w.heap.size w ((wr.setCell ⟨g, y, none⟩ (.bool true)).alloc (.cells #[.int .i64 (F t).ow, .int .i64 (F t).st, .int .i64 y] 61))) :=
              (HB.out.setCell (p := ⟨g, y, none⟩) (by rw [HG.out]; exact Nat.le_refl _) _).alloc (by simpa using HB.out.size) _
            have HSN : Hid (SingleTo F (t + 1)) := singleTo_new HS.out (by rw [HY.out]; exact HF.out)
            clear hnew
            go_wp2
            refine ⟨⟨t + 1, by omega, by go_num, HSN.out, HN.out, HBN.out⟩, by simp [intOf]; omega⟩
          · rw [hf] at d0
            have HV : Hid (false = linkB F n) := linkB_no (fun h => single_not hlt (by rw [hy]; exact hf) (by rw [hy]; exact hx) h.1)
            clear hy hf hx
            go_wp2
            go_ret
            exact ⟨ret_bool HV.out, HB.out.alloc HB.out.size _⟩
    · obtain rfl : n = t := by omega
      have hlt2 : ¬ (n : Int) < n := by omega
      have HS2 : Hid (Single F n) := HS.out
      have HTR : Hid (Tab wr w.heap.size A n c F) := HT.out.below HB.out
      clear HS ht hlt
      go_wp2
      go_loop [6, 7, 8, 28] (fun r _ _ i => CountAt F n r i) (fun _ _ _ i => n - (intOf i).toNat)
      case atStart => exact ⟨0, by omega, rfl, by rw [cov_zero]; rfl⟩
      case round =>
        obtain ⟨t, ht, rfl, rfl⟩ := hrel
        have hcl := cov_le HI.out HS2.out ht
        by_cases hlt : t < n
        · have hx : 0 ≤ (t : Int) ∧ (t : Int) < 64 := by omega
          have hlt3 : (t : Int) < n := by omega
          have d0 := HR.out.cell t (by omega)
          rcases hf : fol F n t with _ | _
          · rw [hf] at d0
            have HF := Lib.hid hf
            have hcl2 := cov_le HI.out HS2.out (show t + 1 ≤ n by omega)
            clear hf
            obtain ⟨L, hL⟩ : ∃ L, L = (cov F n t).length := ⟨_, rfl⟩
            rw [← hL] at hcl ⊢
            have HL := Lib.hid hL
            clear hL
            go_wp2
            go_loop [6, 8] (fun r f => ∃ i : Nat, i ≤ n ∧ f = .int .i64 (iter F i t) ∧ r = .int .i64 ((L + i : Nat) : Int) ∧ ∀ j, j < i → iter F j t ≠ -1) (fun r _ => L + n - (intOf r).toNat)
            case atStart => exact ⟨0, by omega, rfl, by simp, fun j hj => by omega⟩
            case round =>
              obtain ⟨i, hin, rfl, rfl, hne⟩ := hrel
              have HNE := Lib.hid hne
              clear hne
              have ir := iter_in HI.out hlt i
              by_cases he : iter F i t = -1
              · have HE := Lib.hid he
                have HA : Hid ((cov F n (t + 1)).length = L + i) := by rw [HL.out]; exact cov_add HF.out hin he HNE.out
                rw [he]
                clear he ir
                go_wp2
                refine ⟨⟨t + 1, by omega, by go_num, by rw [HA.out]⟩, by simp [intOf]; omega⟩
              · have hlt4 : i < n := by
                  rcases Nat.lt_or_ge i n with h | h
                  · exact h
                  · exact absurd (iter_stay F (start_ends HI.out HS2.out hlt HF.out) h) he
                obtain ⟨y, hy⟩ : ∃ y : Nat, iter F i t = y := ⟨(iter F i t).toNat, by omega⟩
                have y1 : y < n := by omega
                have hnx : iter F (i + 1) t = (F y).nx := by rw [iter_succ, if_neg he, hy, Int.toNat_natCast]
                have HNX := Lib.hid hnx
                clear hnx
                have HNE2 : Hid (∀ j, j < i + 1 → iter F j t ≠ -1) := fun j hj => by
                  rcases (show j < i ∨ j = i by omega) with h | rfl
                  · exact HNE.out j h
                  · exact he
                obtain ⟨b, o, rfl, hbb⟩ := HTR.out.base_ (by omega)
                obtain ⟨_, _, _, c2⟩ := HTR.out.cells y y1
                rw [hy]
                have hb1 : ((y : Int) == -1) = false := by simp
                have yb : 0 ≤ (y : Int) ∧ (y : Int) < n := by omega
                clear hy he ir
                go_wp2
                refine ⟨⟨i + 1, by omega, by rw [HNX.out], by go_num, HNE2.out⟩, by simp [intOf]; omega⟩
          · rw [hf] at d0
            have HA : Hid ((cov F n (t + 1)).length = (cov F n t).length) := cov_skip hf
            clear hf
            go_wp2
            refine ⟨⟨t + 1, by omega, by go_num, by rw [HA.out]⟩, by simp [intOf]; omega⟩
        · obtain rfl : n = t := by omega
          have hlt3 : ¬ (n : Int) < n := by omega
          rcases hv : linkB F n with _ | _
          · have hne : (cov F n n).length ≠ n := fun h => linkB_not hv ⟨HS2.out, (ends_iff HI.out HS2.out).1 h⟩
            obtain ⟨L, hL⟩ : ∃ L, L = (cov F n n).length := ⟨_, rfl⟩
            rw [← hL] at hne ⊢
            have hb : ((L : Int) == (n : Int)) = false := by simp; omega
            clear hne hL
            go_wp2
            go_ret
            exact ⟨rfl, HB.out⟩
          · have he := (ends_iff HI.out HS2.out).2 (linkB_of hv).2
            rw [he]
            clear he
            go_wp2
            go_ret
            exact ⟨rfl, HB.out⟩
end Go.Proofs.Ytjkbjbikofindaa

namespace Go.Proofs.Ytjkbjbikofindaa
set_option maxRecDepth 100000
open Go.RowKit
set_option linter.unusedVariables false

set_option maxHeartbeats 2000000 in
theorem valid_any (s : Int) (A A' : Option Addr) (nw c n c' : Nat) (wd : Nat → Int) (F : Nat → Fr) (w : World) (hA : Arr w w.heap.size A nw c wd) (hT : Tab w w.heap.size A' n c' F) :
    Calls Try.prog 27 #[.agg #[.int .i64 s, .slice A nw c, .slice A' n c']] w fun e w' => e = .returned (.bool (validB s nw wd n F)) ∧ Below w.heap.size w w' := by
  have hm1 := hA.2.1
  have hm2 := hT.2.1
  have hm3 := hA.1
  have hm4 := hT.1
  unfold maxLen at hm1 hm2
  have HA := Lib.hid hA
  have HT := Lib.hid hT
  clear hA hT
  rcases hs : shB s with _ | _
  · have HS := Lib.hid hs
    have hv : validB s nw wd n F = false := validB_no fun h => by have h1 := h.1; rw [hs] at h1; cases h1
    rw [hv]
    clear hs hv
    go_enter Try.func27, Try.ntmps27
    go_wp2
    go_quiet ((go_at_call 44; exact Calls.quiet_of_same ((isShift_any _ _).mono fun _ _ h => ⟨by rw [h.1, HS.out], h.2.symm⟩)))
    go_wp2
    go_ret
    exact ⟨rfl, ((Below.refl _ _).alloc (Nat.le_refl _) _).trans ⟨rfl, rfl, rfl, Nat.le_refl _, fun _ _ => rfl⟩⟩
  · obtain ⟨s1, s2⟩ := shB_yes hs
    obtain ⟨k, rfl⟩ : ∃ k : Nat, s = k := ⟨s.toNat, by omega⟩
    rcases hn : nfB n with _ | _
    · have HS := Lib.hid hs
      have HN := Lib.hid hn
      have hv : validB k nw wd n F = false := validB_no fun h => by have h1 := h.2.1; rw [hn] at h1; cases h1
      rw [hv]
      clear hs hn hv
      go_enter Try.func27, Try.ntmps27
      go_wp2
      go_quiet ((first | (go_at_call 44; exact Calls.quiet_of_same ((isShift_any _ _).mono fun _ _ h => ⟨by rw [h.1, HS.out], h.2.symm⟩)) | (go_at_call 45; exact Calls.quiet_of_same ((isNum_any _ _).mono fun _ _ h => ⟨by rw [h.1, HN.out], h.2.symm⟩))))
      go_wp2
      go_ret
      exact ⟨rfl, ((Below.refl _ _).alloc (Nat.le_refl _) _).trans ⟨rfl, rfl, rfl, Nat.le_refl _, fun _ _ => rfl⟩⟩
    · obtain ⟨n1, n2⟩ := nfB_yes hn
      have HS := Lib.hid hs
      have HN := Lib.hid hn
      have n64 : n ≤ 64 := by omega
      have k8 : k ≤ 8 := by omega
      have s1' : 3 ≤ k := by omega
      have hpc := prod_cast n k
      have hpl := prod_le n64 k8
      by_cases hw : nw = n * 2 ^ k
      · obtain ⟨W, hW⟩ : ∃ W, W = w.alloc (.cells #[.int .i64 k, .slice A nw c, .slice A' n c'] 25) := ⟨_, rfl⟩
        have BX : Blk W w.heap.size 25 #[.int .i64 k, .slice A nw c, .slice A' n c'] := by rw [hW]; exact Blk.new _ _ _
        have HBW : Hid (Below w.heap.size w W) := by rw [hW]; exact (Below.refl _ _).alloc (Nat.le_refl _) _
        have p0 := BX.cell 0
        have p1 := BX.cell 1
        have p2 := BX.cell 2
        simp at p0 p1 p2
        have HW := Lib.hid hW
        have HNW := Lib.hid hw
        have e1 : ((nw : Int) == (n : Int) * 2 ^ k) = false ∨ (nw : Int) = (n : Int) * 2 ^ k := .inr (by rw [hw]; exact hpc)
        have s1 : IntKind.i64.wrap ((n : Int) * 2 ^ k) = nw := by rw [← hpc, ← hw]; exact IntWalk.i64_in _ (by omega)
        clear hs hn hW hw e1 hpc
        go_enter Try.func27, Try.ntmps27
        go_wp2
        rw [← HW.out]
        go_quiet ((first | (go_at_call 44; exact Calls.quiet_of_same ((isShift_any _ _).mono fun _ _ h => ⟨by rw [h.1, HS.out], h.2.symm⟩)) | (go_at_call 45; exact Calls.quiet_of_same ((isNum_any _ _).mono fun _ _ h => ⟨by rw [h.1, HN.out], h.2.symm⟩))))
        go_wp2
        clear s1
        obtain ⟨V, hV⟩ : ∃ V, V = W.drewN nq := ⟨_, rfl⟩
        have BV : Blk V w.heap.size 25 #[.int .i64 k, .slice A nw c, .slice A' n c'] := by rw [hV]; exact BX
        have HBV : Hid (Below w.heap.size w V) := by rw [hV]; exact HBW.out.trans ⟨rfl, rfl, rfl, Nat.le_refl _, fun _ _ => rfl⟩
        rw [← hV]
        clear hV p0 p1 p2 BX
        go_loopw [4, 30] (fun _ i wr => ∃ t : Nat, t ≤ n ∧ i = .int .i64 t ∧ (∀ f, f < t → frameB wd k n F f = true) ∧ Below V.heap.size V wr) (fun _ i _ => n - (intOf i).toNat)
        case atStart => exact ⟨0, by omega, rfl, fun f hf => by omega, Below.refl _ _⟩
        case round =>
          obtain ⟨t, ht, rfl, hfr, hb⟩ := hrel
          have BR := BV.next hb
          have p0 := BR.cell 0
          have p1 := BR.cell 1
          have p2 := BR.cell 2
          simp at p0 p1 p2
          have HF := Lib.hid hfr
          have HB := Lib.hid hb
          have HBR : Hid (Below w.heap.size w wr) := below_next HBV.out (Nat.le_refl _) hb
          have HAR : Hid (Arr wr wr.heap.size A nw c wd) := HA.out.next HBR.out
          have HTR : Hid (Tab wr wr.heap.size A' n c' F) := HT.out.next HBR.out
          clear hfr hb
          by_cases hlt : t < n
          · have hlt2 : (t : Int) < n := by omega
            go_wp2_with fail
            refine (isFree_any k A A' nw c n c' wd F t _ HAR.out HTR.out s1' k8 n64 hlt HNW.out).mono ?_
            rintro e w1 ⟨rfl, hb1⟩
            have BR1 := BR.next hb1
            have p01 := BR1.cell 0
            have p11 := BR1.cell 1
            have p21 := BR1.cell 2
            simp at p01 p11 p21
            have HT1 : Hid (Tab w1 w1.heap.size A' n c' F) := HTR.out.next hb1
            have HB1 : Hid (Below V.heap.size V w1) := below_next HB.out (Nat.le_refl _) hb1
            clear p0 p1 p2 BR hb1
            rcases hfree : (frB (F t) frFree && zeroB wd k t) with _ | _
            · rcases hown : ownB n F t with _ | _
              · have HO := Lib.hid hown
                have hv : validB k nw wd n F = false := validB_no fun h => by
                  have h1 := h.2.2.2.1 t hlt
                  rw [Int.toNat_natCast] at h1
                  simp only [frameB, hfree, hown, Bool.or_self] at h1
                  cases h1
                have HV := Lib.hid hv
                clear hfree hown hv
                go_wp2_with (go_at_call 47; refine (isOwned_any A' n c' F t _ HT1.out hlt (by omega)).mono ?_; rintro e w2 ⟨rfl, hb2⟩; rw [HO.out]; have HB2 := Lib.hid (below_next HB1.out (Nat.le_refl _) hb2); clear hb2)
                go_ret
                exact ⟨ret_bool HV.out.symm, below_next HBV.out (Nat.le_refl _) HB2.out⟩
              · have HO := Lib.hid hown
                have hv : frameB wd k n F t = true := by simp [frameB, hown]
                have HV := Lib.hid hv
                clear hfree hown hv
                go_wp2_with (go_at_call 47; refine (isOwned_any A' n c' F t _ HT1.out hlt (by omega)).mono ?_; rintro e w2 ⟨rfl, hb2⟩; rw [HO.out]; have HB2 := Lib.hid (below_next HB1.out (Nat.le_refl _) hb2); clear hb2)
                refine ⟨⟨t + 1, by omega, by go_num, fun f hf => ?_, HB2.out⟩, by simp [intOf]; omega⟩
                rcases (show f < t ∨ f = t by omega) with h | rfl
                · exact HF.out f h
                · exact HV.out
            · have hv : frameB wd k n F t = true := by simp only [frameB, hfree, Bool.true_or]
              have HV := Lib.hid hv
              clear hfree hv
              go_wp2
              refine ⟨⟨t + 1, by omega, by go_num, fun f hf => ?_, HB1.out⟩, by simp [intOf]; omega⟩
              rcases (show f < t ∨ f = t by omega) with h | rfl
              · exact HF.out f h
              · exact HV.out
          · obtain rfl : n = t := by omega
            have hlt2 : ¬ (n : Int) < n := by omega
            have hv : linkB F n = validB k nw wd n F := by
              have hfr : ∀ f, f < n → frameB wd (k : Int).toNat n F f = true := by rw [Int.toNat_natCast]; exact HF.out
              rcases hl : linkB F n with _ | _
              · exact (validB_no fun h => linkB_not hl h.2.2.2.2).symm
              · exact (validB_yes ⟨HS.out, HN.out, by rw [Int.toNat_natCast]; exact HNW.out, hfr, linkB_of hl⟩).symm
            have HV := Lib.hid hv
            clear hv
            go_wp2_with fail
            refine (links_any A' n c' F _ HTR.out n64 (inside_of HF.out)).mono ?_
            rintro e w1 ⟨rfl, hb1⟩
            rw [HV.out]
            have HB1 := Lib.hid (below_next HBR.out (Nat.le_refl _) hb1)
            clear hb1
            go_wp2
            go_ret
            exact ⟨rfl, HB1.out⟩
      · have hv : validB k nw wd n F = false := validB_no fun h => hw (by have h1 := h.2.2.1; rw [Int.toNat_natCast] at h1; exact h1)
        have hb : ((nw : Int) == (n : Int) * 2 ^ k) = false := by rw [← hpc]; simp; omega
        have s1 : IntKind.i64.wrap ((n : Int) * 2 ^ k) = (n : Int) * 2 ^ k := by rw [← hpc]; exact IntWalk.i64_in _ (by omega)
        rw [hv]
        clear hs hn hw hpc hv
        go_enter Try.func27, Try.ntmps27
        go_wp2
        go_quiet ((first | (go_at_call 44; exact Calls.quiet_of_same ((isShift_any _ _).mono fun _ _ h => ⟨by rw [h.1, HS.out], h.2.symm⟩)) | (go_at_call 45; exact Calls.quiet_of_same ((isNum_any _ _).mono fun _ _ h => ⟨by rw [h.1, HN.out], h.2.symm⟩))))
        go_wp2
        go_ret
        exact ⟨rfl, ((Below.refl _ _).alloc (Nat.le_refl _) _).trans ⟨rfl, rfl, rfl, Nat.le_refl _, fun _ _ => rfl⟩⟩
end Go.Proofs.Ytjkbjbikofindaa
