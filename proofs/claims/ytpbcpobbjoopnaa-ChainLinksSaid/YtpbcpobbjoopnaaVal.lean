/-
  Contracts of package frame: Valid and what it calls.
-/
import Derived.Test.YtpbcpobbjoopnaaEq
namespace Go.Proofs.Ytpbcpobbjoopnaa
open Go.RowKit
set_option linter.unusedVariables false

theorem isStamp_any (st ow : Int) (w : World) :
    Calls Try.prog 65 #[.int .i64 st, .int .i64 ow] w fun e w' => e = .returned (.bool (stB st ow)) ∧ w = w' := by
  by_cases h1 : ow < 0
  · go_enter Try.func65, Try.ntmps65
    go_wp2
    go_ret
    exact ⟨ret_bool (stB_not (by omega)), rfl⟩
  · by_cases h2 : 4294967295 < ow
    · go_enter Try.func65, Try.ntmps65
      go_wp2
      go_ret
      exact ⟨ret_bool (stB_not (by omega)), rfl⟩
    · have h3 : 0 ≤ ow ∧ ow ≤ 4294967295 := by omega
      go_enter Try.func65, Try.ntmps65
      go_wp2
      go_loop [5, 12] (fun _ i => ∃ j : Nat, j ≤ 4 ∧ i = .int .i64 j ∧ ∀ b : Nat, b < j → st ≠ ow + b * 4294967296) (fun _ i => 4 - (intOf i).toNat)
      case atStart => exact ⟨0, by omega, rfl, fun b hb => by omega⟩
      case round =>
        obtain ⟨j, hj, rfl, hne⟩ := hrel
        have HN := Lib.hid hne
        clear hne
        rcases j with _ | _ | _ | _ | _ | j
        · by_cases ht : st = ow
          · subst ht
            go_wp2
            go_ret
            exact ⟨ret_bool (stB_of (by omega)), rfl⟩
          · have hb : (st == ow) = false := by simpa using ht
            go_wp2
            refine ⟨⟨1, by omega, rfl, fun b hb => ?_⟩, by simp [intOf]⟩
            have h4 := HN.out b
            rcases (show b < 0 ∨ b = 0 by omega) with h5 | rfl
            · exact h4 h5
            · simpa using ht
        · by_cases ht : st = ow + 4294967296
          · subst ht
            go_wp2
            go_ret
            exact ⟨ret_bool (stB_of (by omega)), rfl⟩
          · have hb : (st == ow + 4294967296) = false := by simpa using ht
            go_wp2
            refine ⟨⟨2, by omega, rfl, fun b hb => ?_⟩, by simp [intOf]⟩
            have h4 := HN.out b
            rcases (show b < 1 ∨ b = 1 by omega) with h5 | rfl
            · exact h4 h5
            · simpa using ht
        · by_cases ht : st = ow + 8589934592
          · subst ht
            go_wp2
            go_ret
            exact ⟨ret_bool (stB_of (by omega)), rfl⟩
          · have hb : (st == ow + 8589934592) = false := by simpa using ht
            go_wp2
            refine ⟨⟨3, by omega, rfl, fun b hb => ?_⟩, by simp [intOf]⟩
            have h4 := HN.out b
            rcases (show b < 2 ∨ b = 2 by omega) with h5 | rfl
            · exact h4 h5
            · simpa using ht
        · by_cases ht : st = ow + 12884901888
          · subst ht
            go_wp2
            go_ret
            exact ⟨ret_bool (stB_of (by omega)), rfl⟩
          · have hb : (st == ow + 12884901888) = false := by simpa using ht
            go_wp2
            refine ⟨⟨4, by omega, rfl, fun b hb => ?_⟩, by simp [intOf]⟩
            have h4 := HN.out b
            rcases (show b < 3 ∨ b = 3 by omega) with h5 | rfl
            · exact h4 h5
            · simpa using ht
        · have e0 := HN.out 0 (by omega)
          have e1 := HN.out 1 (by omega)
          have e2 := HN.out 2 (by omega)
          have e3 := HN.out 3 (by omega)
          go_wp2
          go_ret
          exact ⟨ret_bool (stB_not (by omega)), rfl⟩
        · omega

set_option maxHeartbeats 1000000 in
theorem isOwned_any (A : Option Addr) (n c : Nat) (F : Nat → Fr) (f : Nat) (w : World) (hT : Tab w w.heap.size A n c F) (hf : f < n) (hn : n ≤ 80) :
    Calls Try.prog 52 #[.slice A n c, .int .i64 f] w fun e w' => e = .returned (.bool (ownB n F f)) ∧ Below w.heap.size w w' := by
  obtain ⟨b, o, rfl, hb⟩ := hT.base_ (by omega)
  obtain ⟨_, c0, c1, c2⟩ := hT.cells f hf
  have H := Lib.hid hT
  have hf2 : 0 ≤ (f : Int) ∧ (f : Int) < n := by omega
  clear hT
  rcases hs : stB (F f).st (F f).ow with _ | _
  · have HS := Lib.hid hs
    clear hs
    go_enter Try.func52, Try.ntmps52
    go_wp2_with (go_at_call 65; refine (isStamp_any _ _ _).mono ?_; rintro e w' ⟨rfl, rfl⟩; rw [HS.out])
    go_ret
    exact ⟨ret_bool (by simp [ownB, HS.out]), (Below.refl _ _).alloc (Nat.le_refl _) _⟩
  · by_cases hx : (F f).nx = -1
    · rw [hx] at c2
      have HS := Lib.hid hs
      have HX := Lib.hid hx
      clear hs hx
      go_enter Try.func52, Try.ntmps52
      go_wp2_with (go_at_call 65; refine (isStamp_any _ _ _).mono ?_; rintro e w' ⟨rfl, rfl⟩; rw [HS.out])
      go_ret
      exact ⟨ret_bool (by simp [ownB, HS.out, HX.out]), (Below.refl _ _).alloc (Nat.le_refl _) _⟩
    · rcases hi : inB n (F f).nx with _ | _
      · have hv : ownB n F f = false := by simp [ownB, hs, hi, hx]
        obtain ⟨x, hxx⟩ : ∃ x, x = (F f).nx := ⟨_, rfl⟩
        rw [hv]
        rw [← hxx] at c2 hi hx
        have hb1 : (x == -1) = false := by simpa using hx
        have HS := Lib.hid hs
        have HI := Lib.hid hi
        clear hs hi hv hxx hx
        go_enter Try.func52, Try.ntmps52
        go_wp2_with (first
          | (go_at_call 65; refine (isStamp_any _ _ _).mono ?_; rintro e w' ⟨rfl, rfl⟩; rw [HS.out])
          | (go_at_call 59; refine (isFrame_any _ _ _ _ _).mono ?_; rintro e w' ⟨rfl, rfl⟩; rw [HI.out]))
        go_ret
        exact ⟨rfl, (Below.refl _ _).alloc (Nat.le_refl _) _⟩
      · obtain ⟨g0, g1⟩ := inB_yes hi
        obtain ⟨g, hg⟩ : ∃ g : Nat, (F f).nx = g := ⟨(F f).nx.toNat, by omega⟩
        have hv : ownB n F f = (decide ((g : Int) ≠ f) && decide ((F g).ow = (F f).ow) && decide ((F g).st = (F f).st)) := by
          rw [hg] at hi hx
          simp [ownB, hs, hi, hg]
        rw [hv]
        rw [hg] at c2 hi hx g1
        have gn : g < n := by omega
        obtain ⟨_, d0, d1, d2⟩ := H.out.cells g gn
        have hb1 : ((g : Int) == -1) = false := by simp
        have HS := Lib.hid hs
        have HI := Lib.hid hi
        have gn2 : 0 ≤ (g : Int) ∧ (g : Int) < n := by omega
        clear hs hi hv hg hx g0 g1
        by_cases e1 : (g : Int) = f
        · have : g = f := by omega
          subst this
          have v1 : (decide ((g : Int) ≠ g) && decide ((F g).ow = (F g).ow) && decide ((F g).st = (F g).st)) = false := by simp
          rw [v1]
          clear v1 e1 d0 d1 d2
          go_enter Try.func52, Try.ntmps52
          go_wp2_with (first
            | (go_at_call 65; refine (isStamp_any _ _ _).mono ?_; rintro e w' ⟨rfl, rfl⟩; rw [HS.out])
            | (go_at_call 59; refine (isFrame_any _ _ _ _ _).mono ?_; rintro e w' ⟨rfl, rfl⟩; rw [HI.out]))
          go_ret
          exact ⟨rfl, (Below.refl _ _).alloc (Nat.le_refl _) _⟩
        · have hb2 : ((g : Int) == (f : Int)) = false := by simpa using e1
          have v1 : decide ((g : Int) ≠ f) = true := decide_eq_true e1
          rw [v1]
          obtain ⟨a, ha⟩ : ∃ a, a = (F g).ow := ⟨_, rfl⟩
          obtain ⟨b', hb'⟩ : ∃ b, b = (F g).st := ⟨_, rfl⟩
          obtain ⟨a2, ha2⟩ : ∃ a, a = (F f).ow := ⟨_, rfl⟩
          obtain ⟨b2, hb2'⟩ : ∃ b, b = (F f).st := ⟨_, rfl⟩
          rw [← ha, ← hb', ← ha2, ← hb2'] 
          rw [← ha] at d0
          rw [← hb'] at d1
          rw [← ha2] at c0
          rw [← hb2'] at c1
          rw [← ha2, ← hb2'] at HS
          clear ha hb' ha2 hb2' v1 e1
          by_cases k1 : a = a2
          · subst k1
            by_cases k2 : b' = b2
            · subst k2
              go_enter Try.func52, Try.ntmps52
              go_wp2_with (first
                | (go_at_call 65; refine (isStamp_any _ _ _).mono ?_; rintro e w' ⟨rfl, rfl⟩; rw [HS.out])
                | (go_at_call 59; refine (isFrame_any _ _ _ _ _).mono ?_; rintro e w' ⟨rfl, rfl⟩; rw [HI.out]))
              go_ret
              exact ⟨ret_bool (by simp), ((Below.refl _ _).alloc (Nat.le_refl _) _).alloc (by simp) _⟩
            · have kb : (b' == b2) = false := by simpa using k2
              go_enter Try.func52, Try.ntmps52
              go_wp2_with (first
                | (go_at_call 65; refine (isStamp_any _ _ _).mono ?_; rintro e w' ⟨rfl, rfl⟩; rw [HS.out])
                | (go_at_call 59; refine (isFrame_any _ _ _ _ _).mono ?_; rintro e w' ⟨rfl, rfl⟩; rw [HI.out]))
              go_ret
              exact ⟨ret_bool (by simp [k2]), ((Below.refl _ _).alloc (Nat.le_refl _) _).alloc (by simp) _⟩
          · have kb : (a == a2) = false := by simpa using k1
            go_enter Try.func52, Try.ntmps52
            go_wp2_with (first
              | (go_at_call 65; refine (isStamp_any _ _ _).mono ?_; rintro e w' ⟨rfl, rfl⟩; rw [HS.out])
              | (go_at_call 59; refine (isFrame_any _ _ _ _ _).mono ?_; rintro e w' ⟨rfl, rfl⟩; rw [HI.out]))
            go_ret
            exact ⟨ret_bool (by simp [k1]), ((Below.refl _ _).alloc (Nat.le_refl _) _).alloc (by simp) _⟩

set_option maxHeartbeats 1000000 in
theorem isFree_any (k : Nat) (A A' : Option Addr) (nw c n c' : Nat) (wd : Nat → Int) (F : Nat → Fr) (f : Nat) (w : World) (hA : Arr w w.heap.size A nw c wd) (hT : Tab w w.heap.size A' n c' F) (h1 : 3 ≤ k) (h2 : k ≤ 8) (hn : n ≤ 64) (hf : f < n) (hw : nw = n * 2 ^ k) :
    Calls Try.prog 51 #[.agg #[.int .i64 k, .slice A nw c, .slice A' n c'], .int .i64 f] w fun e w' => e = .returned (.bool (frB (F f) frFree && zeroB wd k f)) ∧ Below w.heap.size w w' := by
  obtain ⟨b, o, rfl, hb⟩ := hT.base_ (by omega)
  obtain ⟨_, c0, c1, c2⟩ := hT.cells f hf
  have hf2 : 0 ≤ (f : Int) ∧ (f : Int) < n := by omega
  have HA := Lib.hid hA
  clear hA hT
  have z1 : w.heap.size < (w.alloc (.cells #[.int .i64 k, .slice A nw c, .slice (some ⟨b, o, none⟩) n c'] 25)).heap.size := by simp
  obtain ⟨W, hW⟩ : ∃ W, W = w.alloc (.cells #[.int .i64 k, .slice A nw c, .slice (some ⟨b, o, none⟩) n c'] 25) := ⟨_, rfl⟩
  have BX : Blk W w.heap.size 25 #[.int .i64 k, .slice A nw c, .slice (some ⟨b, o, none⟩) n c'] := by rw [hW]; exact Blk.new _ _ _
  have p0 := BX.cell 0
  have p1 := BX.cell 1
  have p2 := BX.cell 2
  simp at p0 p1 p2
  have b0 : W.cell? ⟨b, o + f * 3, none⟩ = some (.int .i64 (F f).ow) := by rw [hW, ← c0]; go_simp
  have b1 : W.cell? ⟨b, o + f * 3 + 1, none⟩ = some (.int .i64 (F f).st) := by rw [hW, ← c1]; go_simp
  have b2 : W.cell? ⟨b, o + f * 3 + 2, none⟩ = some (.int .i64 (F f).nx) := by rw [hW, ← c2]; go_simp
  have zb : b < W.heap.size := by rw [hW]; simp; omega
  have zw : w.heap.size < W.heap.size := by rw [hW]; simp
  have HBW : Hid (Below w.heap.size w W) := by rw [hW]; exact (Below.refl _ _).alloc (Nat.le_refl _) _
  have HAW : Hid (Arr W W.heap.size A nw c wd) := HA.out.next HBW.out
  have HW := Lib.hid hW
  have HN := Lib.hid hw
  have hne : ∀ W, (binOp .neq 64 (.agg #[.int .i64 (F f).ow, .int .i64 (F f).st, .int .i64 (F f).nx]) (.agg #[.int .i64 (-1), .int .i64 (-1), .int .i64 (-1)])).run Try.prog W = .ok (.bool (!(frB (F f) frFree))) W := fun W => run_neq_frame (F f).ow (F f).st (F f).nx (-1) (-1) (-1) W
  rcases hfr : frB (F f) frFree with _ | _
  · rw [hfr] at hne
    clear hW z1 c0 c1 c2 hw
    obtain ⟨x0, hx0⟩ : ∃ x, x = (F f).ow := ⟨_, rfl⟩
    obtain ⟨x1, hx1⟩ : ∃ x, x = (F f).st := ⟨_, rfl⟩
    obtain ⟨x2, hx2⟩ : ∃ x, x = (F f).nx := ⟨_, rfl⟩
    rw [← hx0, ← hx1, ← hx2] at hne
    rw [← hx0] at b0
    rw [← hx1] at b1
    rw [← hx2] at b2
    clear hx0 hx1 hx2 hfr
    go_enter Try.func51, Try.ntmps51
    go_wp2
    rw [← HW.out]
    go_region_held3 (fun w' => w'.cell? ⟨w.heap.size, 0, none⟩ = some (.int .i64 k) ∧ w'.cell? ⟨w.heap.size, 1, none⟩ = some (.slice A nw c) ∧ w'.cell? ⟨w.heap.size, 2, none⟩ = some (.slice (some ⟨b, o, none⟩) n c') ∧ w'.cell? ⟨b, o + f * 3, none⟩ = some (.int .i64 x0) ∧ w'.cell? ⟨b, o + f * 3 + 1, none⟩ = some (.int .i64 x1) ∧ w'.cell? ⟨b, o + f * 3 + 2, none⟩ = some (.int .i64 x2))
      (first | exact ⟨p0, p1, p2, b0, b1, b2⟩ | exact ⟨(hb1.cell (p := ⟨_, 0, none⟩) zw).trans p0, (hb1.cell (p := ⟨_, 1, none⟩) zw).trans p1, (hb1.cell (p := ⟨_, 2, none⟩) zw).trans p2, (hb1.cell (p := ⟨_, _, none⟩) zb).trans b0, (hb1.cell (p := ⟨_, _, none⟩) zb).trans b1, (hb1.cell (p := ⟨_, _, none⟩) zb).trans b2⟩)
      (first | (go_at_call 64; refine (freeFrame_any _).mono ?_; rintro e w1 ⟨rfl, hb1⟩))
    have HB1 := Lib.hid hb1
    clear hb1
    go_wp2
    go_ret
    exact ⟨rfl, below_next HBW.out.drew (Nat.le_refl _) HB1.out⟩
  · rw [hfr] at hne
    have hF := frB_yes hfr
    rw [hF] at hne b0 b1 b2
    change ∀ W : World, (binOp .neq 64 (.agg #[.int .i64 (-1), .int .i64 (-1), .int .i64 (-1)]) (.agg #[.int .i64 (-1), .int .i64 (-1), .int .i64 (-1)])).run Try.prog W = .ok (.bool false) W at hne
    change W.cell? ⟨b, o + f * 3, none⟩ = some (.int .i64 (-1)) at b0
    change W.cell? ⟨b, o + f * 3 + 1, none⟩ = some (.int .i64 (-1)) at b1
    change W.cell? ⟨b, o + f * 3 + 2, none⟩ = some (.int .i64 (-1)) at b2
    clear hW z1 c0 c1 c2 hw hfr hF
    go_enter Try.func51, Try.ntmps51
    go_wp2
    rw [← HW.out]
    go_region_held3 (fun w' => w'.cell? ⟨w.heap.size, 0, none⟩ = some (.int .i64 k) ∧ w'.cell? ⟨w.heap.size, 1, none⟩ = some (.slice A nw c) ∧ w'.cell? ⟨w.heap.size, 2, none⟩ = some (.slice (some ⟨b, o, none⟩) n c') ∧ w'.cell? ⟨b, o + f * 3, none⟩ = some (.int .i64 (-1)) ∧ w'.cell? ⟨b, o + f * 3 + 1, none⟩ = some (.int .i64 (-1)) ∧ w'.cell? ⟨b, o + f * 3 + 2, none⟩ = some (.int .i64 (-1)))
      (first | exact ⟨p0, p1, p2, b0, b1, b2⟩ | exact ⟨(hb1.cell (p := ⟨_, 0, none⟩) zw).trans p0, (hb1.cell (p := ⟨_, 1, none⟩) zw).trans p1, (hb1.cell (p := ⟨_, 2, none⟩) zw).trans p2, (hb1.cell (p := ⟨_, _, none⟩) zb).trans b0, (hb1.cell (p := ⟨_, _, none⟩) zb).trans b1, (hb1.cell (p := ⟨_, _, none⟩) zb).trans b2⟩)
      (first | (go_at_call 64; refine (freeFrame_any _).mono ?_; rintro e w1 ⟨rfl, hb1⟩))
    have HB1 := Lib.hid hb1
    have z2 : b < w1.heap.size := by have := hb1.size; simp at this; omega
    have q0 := (hb1.cell (p := ⟨w.heap.size, 0, none⟩) zw).trans p0
    have q1 := (hb1.cell (p := ⟨w.heap.size, 1, none⟩) zw).trans p1
    clear hb1 p0 p1 p2 b0 b1 b2 hne
    have pk := Nat.two_pow_pos k
    have hle : (f + 1) * 2 ^ k ≤ nw := by rw [HN.out]; exact Nat.mul_le_mul_right _ (by omega)
    have hsum : (f + 1) * 2 ^ k = f * 2 ^ k + 2 ^ k := by rw [Nat.add_mul]; omega
    have hlen : nw ≤ 16384 := by rw [HN.out]; exact prod_le hn h2
    have hcap := HAW.out.1
    have hmax := HAW.out.2.1
    unfold maxLen at hmax
    obtain ⟨ab, ao, rfl, hab, hcells⟩ := HAW.out.2.2.2 (by omega)
    obtain ⟨p, hp⟩ : ∃ p, p = f * 2 ^ k := ⟨_, rfl⟩
    obtain ⟨z, hz⟩ : ∃ z, z = 2 ^ k := ⟨_, rfl⟩
    have s2 : (f : Int) * 2 ^ k = p := by rw [hp]; simp
    have s3 : ((f : Int) + 1) * 2 ^ k = ((p + z : Nat) : Int) := by rw [hp, hz, ← hsum]; simp
    have hle2 : p + z ≤ nw := by rw [hp, hz, ← hsum]; exact hle
    rw [← hz] at pk
    have s1 : IntKind.i64.wrap ((f : Int) + 1) = f + 1 := IntWalk.i64_in _ (by omega)
    have s4 : IntKind.i64.wrap ((f : Int) * 2 ^ k) = p := by rw [s2]; exact IntWalk.i64_in _ (by omega)
    have s5 : IntKind.i64.wrap (((f : Int) + 1) * 2 ^ k) = ((p + z : Nat) : Int) := by rw [s3]; exact IntWalk.i64_in _ (by omega)
    have HP := Lib.hid hp
    have HZ := Lib.hid hz
    have HC := Lib.hid hcells
    clear hp hz hsum hle s2 s3 hcells
    go_wp2
    go_quiet (fail)
    clear s1 s4 s5 q0 q1
    go_wp2
    have HBZ := Lib.hid (below_next HBW.out.drew (Nat.le_refl _) HB1.out)
    have zz : p + z - p = z := by omega
    have HBZ2 : Hid (Below w.heap.size w (w1.drewN nq)) := HBZ.out.trans ⟨rfl, rfl, rfl, Nat.le_refl _, fun _ _ => rfl⟩
    obtain ⟨V, hV⟩ : ∃ V, V = w1.drewN nq := ⟨_, rfl⟩
    have hc2 : ∀ j, j < z → V.cell? ⟨ab, ao + p + j, none⟩ = some (.int .u64 (wd (p + j))) := by
      intro j hj
      rw [hV, Nat.add_assoc]
      exact (HB1.out.cell (p := ⟨ab, _, none⟩) hab).trans (HC.out (p + j) (by omega))
    rw [← hV] at HBZ2 ⊢
    have HC2 := Lib.hid hc2
    have Z2 : 0 ≤ (z : Int) := by omega
    clear HC HBZ hV hc2
    go_loop [6, 27] (fun _ i => ∃ t : Nat, t ≤ z ∧ i = .int .i64 t ∧ ∀ a, a < t → wd (p + a) = 0) (fun _ i => z - (intOf i).toNat)
    case atStart => exact ⟨0, by omega, rfl, fun a ha => by omega⟩
    case round =>
      obtain ⟨t, ht, rfl, hzero⟩ := hrel
      have H0 := Lib.hid hzero
      clear hzero
      by_cases hlt : t < z
      · have hc := HC2.out t hlt
        have hi : 0 ≤ (t : Int) ∧ (t : Int) < ((p + z - p : Nat) : Int) := by omega
        have hlt2 : (t : Int) < z := by omega
        obtain ⟨x, hx⟩ : ∃ x, x = wd (p + t) := ⟨_, rfl⟩
        rw [← hx] at hc
        by_cases hx0 : x = 0
        · subst hx0
          have HX := Lib.hid hx
          clear hx
          go_wp2
          refine ⟨⟨t + 1, by omega, by go_num, fun a ha => ?_⟩, by simp [intOf]; omega⟩
          rcases (show a < t ∨ a = t by omega) with h | rfl
          · exact H0.out a h
          · exact HX.out.symm
        · have hb : (x == 0) = false := by simpa using hx0
          have HX : Hid (zeroB wd k f = false) := by
            refine decide_eq_false fun h => hx0 ?_
            rw [hx, HP.out]
            exact h t (by rw [← HZ.out]; exact hlt)
          clear hx hx0
          go_wp2
          go_ret
          exact ⟨ret_bool (by rw [HX.out]), HBZ2.out⟩
      · obtain rfl : t = z := by omega
        have HX : Hid (zeroB wd k f = true) := by
          refine decide_eq_true fun a ha => ?_
          rw [← HP.out]
          exact H0.out a (by rw [HZ.out]; exact ha)
        have hlt2 : ¬ (t : Int) < t := by omega
        go_wp2
        go_ret
        exact ⟨ret_bool (by rw [HX.out]), HBZ2.out⟩
end Go.Proofs.Ytpbcpobbjoopnaa
