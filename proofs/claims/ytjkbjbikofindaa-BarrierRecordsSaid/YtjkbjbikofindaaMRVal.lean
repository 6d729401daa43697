/-
  Merged: RVal.
-/
import Derived.Test.YtjkbjbikofindaaMVal
namespace Go.Proofs.Ytjkbjbikofindaa
set_option maxRecDepth 100000
open Go.RowKit
set_option linter.unusedVariables false

theorem stamped_any (x0 x1 x2 : Int) (w : World) :
    Calls Try.prog 60 #[.agg #[.int .i64 x0, .int .i64 x1, .int .i64 x2]] w fun e w' => e = .returned (.bool (stB x1 x0)) ∧ Below w.heap.size w w' := by
  have HB : Hid (Below w.heap.size w (w.alloc (.cells #[.int .i64 x0, .int .i64 x1, .int .i64 x2] 61))) := (Below.refl _ _).alloc (Nat.le_refl _) _
  by_cases h1 : x0 < 0
  · go_enter Try.func60, Try.ntmps60
    go_wp2
    go_ret
    exact ⟨ret_bool (stB_not (by omega)), HB.out⟩
  · by_cases h2 : 4294967295 < x0
    · go_enter Try.func60, Try.ntmps60
      go_wp2
      go_ret
      exact ⟨ret_bool (stB_not (by omega)), HB.out⟩
    · have h3 : 0 ≤ x0 ∧ x0 ≤ 4294967295 := by omega
      go_enter Try.func60, Try.ntmps60
      go_wp2
      go_loop [3] (fun i => ∃ j : Nat, j ≤ 4 ∧ i = .int .i64 j ∧ ∀ b : Nat, b < j → x1 ≠ x0 + b * 4294967296) (fun i => 4 - (intOf i).toNat)
      case atStart => exact ⟨0, by omega, rfl, fun b hb => by omega⟩
      case round =>
        obtain ⟨j, hj, rfl, hne⟩ := hrel
        have HN := Lib.hid hne
        clear hne
        rcases j with _ | _ | _ | _ | _ | j
        · by_cases ht : x1 = x0
          · subst ht
            go_wp2
            go_ret
            exact ⟨ret_bool (stB_of (by omega)), HB.out⟩
          · have hb : (x1 == x0) = false := by simpa using ht
            go_wp2
            refine ⟨⟨1, by omega, rfl, fun b hb => ?_⟩, by simp [intOf]⟩
            have h4 := HN.out b
            rcases (show b < 0 ∨ b = 0 by omega) with h5 | rfl
            · exact h4 h5
            · simpa using ht
        · by_cases ht : x1 = x0 + 4294967296
          · subst ht
            go_wp2
            go_ret
            exact ⟨ret_bool (stB_of (by omega)), HB.out⟩
          · have hb : (x1 == x0 + 4294967296) = false := by simpa using ht
            go_wp2
            refine ⟨⟨2, by omega, rfl, fun b hb => ?_⟩, by simp [intOf]⟩
            have h4 := HN.out b
            rcases (show b < 1 ∨ b = 1 by omega) with h5 | rfl
            · exact h4 h5
            · simpa using ht
        · by_cases ht : x1 = x0 + 8589934592
          · subst ht
            go_wp2
            go_ret
            exact ⟨ret_bool (stB_of (by omega)), HB.out⟩
          · have hb : (x1 == x0 + 8589934592) = false := by simpa using ht
            go_wp2
            refine ⟨⟨3, by omega, rfl, fun b hb => ?_⟩, by simp [intOf]⟩
            have h4 := HN.out b
            rcases (show b < 2 ∨ b = 2 by omega) with h5 | rfl
            · exact h4 h5
            · simpa using ht
        · by_cases ht : x1 = x0 + 12884901888
          · subst ht
            go_wp2
            go_ret
            exact ⟨ret_bool (stB_of (by omega)), HB.out⟩
          · have hb : (x1 == x0 + 12884901888) = false := by simpa using ht
            go_wp2
            refine ⟨⟨4, by omega, rfl, fun b hb => ?_⟩, by simp [intOf]⟩
            have h4 := HN.out b
            rcases (show b < 3 ∨ b = 3 by omega) with h5 | rfl
            · exact h4 h5
            · simpa using ht
        · have e0 := HN.out 0 (by omega)
          have e1 := HN.out 1 (by omega)
          have e2 := HN.out 2 (by omega)
          have e3 := HN.out 3 (by omega)
          go_wp2
          go_ret
          exact ⟨ret_bool (stB_not (by omega)), HB.out⟩
        · omega

/-- What holds while the reference looks at the frames. -/
def LookAt (wd : Nat → Int) (k n : Nat) (F : Nat → Fr) (V : World) (g : Nat) (i : Value) (wr : World) : Prop :=
  ∃ t : Nat, t ≤ n ∧ i = .int .i64 t ∧ (∀ f, f < t → frameB wd k n F f = true) ∧ SingleTo F t ∧ Row wr g 100 64 (fun j => .int .i64 (if fol F t j then 1 else 0)) ∧ Below g V wr

set_option maxRecDepth 100000 in
set_option maxHeartbeats 4000000 in
theorem refValid_any (s : Int) (A A' : Option Addr) (nw c n c' : Nat) (wd : Nat → Int) (F : Nat → Fr) (w : World) (hA : Arr w w.heap.size A nw c wd) (hT : Tab w w.heap.size A' n c' F) :
    Calls Try.prog 31 #[.agg #[.int .i64 s, .slice A nw c, .slice A' n c']] w fun e w' => e = .returned (.bool (validB s nw wd n F)) ∧ Below w.heap.size w w' := by
  have hm1 := hA.2.1
  have hm2 := hT.2.1
  have hm3 := hA.1
  have hm4 := hT.1
  unfold maxLen at hm1 hm2
  have HA := Lib.hid hA
  have HT := Lib.hid hT
  have HB0 : Hid (Below w.heap.size w (w.alloc (.cells #[.int .i64 s, .slice A nw c, .slice A' n c'] 25))) := (Below.refl _ _).alloc (Nat.le_refl _) _
  clear hA hT
  rcases hs : shB s with _ | _
  · have HS := Lib.hid hs
    have hv : validB s nw wd n F = false := validB_no fun h => by have h1 := h.1; rw [hs] at h1; cases h1
    rw [hv]
    clear hs hv
    go_enter Try.func31, Try.ntmps31
    go_wp2_with (go_at_call 36; refine (refShift_any _ _).mono ?_; rintro e w' ⟨rfl, rfl⟩; rw [HS.out])
    go_ret
    exact ⟨rfl, HB0.out⟩
  · obtain ⟨s1, s2⟩ := shB_yes hs
    obtain ⟨k, rfl⟩ : ∃ k : Nat, s = k := ⟨s.toNat, by omega⟩
    have HS := Lib.hid hs
    clear hs
    by_cases hn1 : (n : Int) < 2
    · have hv : validB k nw wd n F = false := validB_no fun h => by have h1 := nfB_yes h.2.1; omega
      rw [hv]
      clear hv
      go_enter Try.func31, Try.ntmps31
      go_wp2_with (go_at_call 36; refine (refShift_any _ _).mono ?_; rintro e w' ⟨rfl, rfl⟩; rw [HS.out])
      go_ret
      exact ⟨rfl, HB0.out⟩
    · by_cases hn2 : 64 < (n : Int)
      · have hv : validB k nw wd n F = false := validB_no fun h => by have h1 := nfB_yes h.2.1; omega
        rw [hv]
        clear hv
        go_enter Try.func31, Try.ntmps31
        go_wp2_with (go_at_call 36; refine (refShift_any _ _).mono ?_; rintro e w' ⟨rfl, rfl⟩; rw [HS.out])
        go_ret
        exact ⟨rfl, HB0.out⟩
      · have n64 : n ≤ 64 := by omega
        have k8 : k ≤ 8 := by omega
        have hpc := prod_cast n k
        have hpl := prod_le n64 k8
        obtain ⟨q0, q1⟩ := prod_bd n64 k8
        have hnf : nfB n = true := by simp [nfB]; omega
        have HN := Lib.hid hnf
        clear hnf
        by_cases hw : nw = n * 2 ^ k
        · have e1 : (n : Int) * 2 ^ k = nw := by rw [hw]; exact hpc.symm
          have HNW := Lib.hid hw
          rw [e1] at q0 q1
          have s1' : wrap64 ((n : Int) * 2 ^ k) = nw := by rw [e1]; exact IntWalk.wrap64_in _ ⟨by omega, by omega⟩
          clear hw hpc e1
          go_enter Try.func31, Try.ntmps31
          go_wp2_with (go_at_call 36; refine (refShift_any _ _).mono ?_; rintro e w' ⟨rfl, rfl⟩; rw [HS.out])
          obtain ⟨U, hU⟩ : ∃ U, U = w.alloc (.cells #[.int .i64 k, .slice A nw c, .slice A' n c'] 25) := ⟨_, rfl⟩
          have hz : w.heap.size + 1 = U.heap.size := by rw [hU]; simp
          have BU : Blk U w.heap.size 25 #[.int .i64 k, .slice A nw c, .slice A' n c'] := by rw [hU]; exact Blk.new _ _ _
          rw [← hU, hz]
          rw [← hU] at HB0
          have HU := Lib.hid hU
          have HZ := Lib.hid hz
          clear hU hz
          go_loopw [5, 6, 7, 8, 41] (fun _ _ _ _ i wr => LookAt wd k n F U U.heap.size i wr) (fun _ _ _ _ i _ => n - (intOf i).toNat)
          case atStart =>
            refine ⟨0, by omega, rfl, fun f hf => by omega, singleTo_zero, Row.congr (f := fun _ => .int .i64 0) ?_ (fun j _ => by rw [fol_zero]; rfl), (Below.refl _ _).alloc (Nat.le_refl _) _⟩
            exact Row.lit (by rfl)
          case round =>
            obtain ⟨t, ht, rfl, hfr, hsing, hrow, hb⟩ := hrel
            have BR : Blk wr w.heap.size 25 #[.int .i64 k, .slice A nw c, .slice A' n c'] := BU.next hb
            obtain ⟨g, hg⟩ : ∃ g, g = U.heap.size := ⟨_, rfl⟩
            rw [← hg] at hrow ⊢
            have gw : w.heap.size < g := by have := HZ.out; omega
            have gr : g < wr.heap.size := hrow.lt
            have p0 := BR.cell 0
            have p1 := BR.cell 1
            have p2 := BR.cell 2
            simp at p0 p1 p2
            have HFR := Lib.hid hfr
            have HSI := Lib.hid hsing
            have HRW := Lib.hid hrow
            have HB := Lib.hid hb
            have HG := Lib.hid hg
            have HBR : Hid (Below w.heap.size w wr) := below_next HB0.out (Nat.le_refl _) hb
            clear hfr hsing hrow hb hg BR
            by_cases hlt : t < n
            · have hlt2 : 0 ≤ (t : Int) ∧ (t : Int) < n := by omega
              have hlt3 : (t : Int) < n := by omega
              have HTR : Hid (Tab wr wr.heap.size A' n c' F) := HT.out.next HBR.out
              have HVN : Hid (frameB wd k n F t = false → false = validB k nw wd n F) := fun hf => (validB_no fun h => by
                have h1 := h.2.2.2.1 t hlt
                rw [Int.toNat_natCast, hf] at h1
                cases h1).symm
              obtain ⟨b, o, rfl, hbb⟩ := HTR.out.base_ (by omega)
              obtain ⟨_, c0, c1, c2⟩ := HTR.out.cells t hlt
              have wz : w.heap.size < wr.heap.size := by omega
              obtain ⟨x0, hx0⟩ : ∃ x, x = (F t).ow := ⟨_, rfl⟩
              obtain ⟨x1, hx1⟩ : ∃ x, x = (F t).st := ⟨_, rfl⟩
              obtain ⟨x2, hx2⟩ : ∃ x, x = (F t).nx := ⟨_, rfl⟩
              rw [← hx0] at c0
              rw [← hx1] at c1
              rw [← hx2] at c2
              have HBX : Hid (Below g U (wr.alloc (.cells #[.int .i64 x0, .int .i64 x1, .int .i64 x2] 61))) := by rw [HG.out]; exact HB.out.alloc HB.out.size _
              have HBY : Hid (Below w.heap.size w (wr.alloc (.cells #[.int .i64 x0, .int .i64 x1, .int .i64 x2] 61))) := HBR.out.alloc HBR.out.size _
              have HRX : Hid (Row (wr.alloc (.cells #[.int .i64 x0, .int .i64 x1, .int .i64 x2] 61)) g 100 64 (fun j => .int .i64 (if fol F t j then 1 else 0))) := HRW.out.next ((Below.refl _ _).alloc (Nat.le_refl _) _)
              by_cases e0 : x0 = -1
              · subst e0
                by_cases e1 : x1 = -1
                · subst e1
                  by_cases e2 : x2 = -1
                  · subst e2
                    have hF : F t = frFree := by
                      rcases hFt : F t with ⟨a, b, c⟩
                      rw [hFt] at hx0 hx1 hx2
                      simp at hx0 hx1 hx2
                      subst hx0 hx1 hx2
                      rfl
                    have HF := Lib.hid hF
                    have hnx : (F t).nx = -1 := by rw [hF]; rfl
                    have HNX := Lib.hid hnx
                    obtain ⟨p, hp⟩ : ∃ p, p = t * 2 ^ k := ⟨_, rfl⟩
                    obtain ⟨z, hz⟩ : ∃ z, z = 2 ^ k := ⟨_, rfl⟩
                    have pk := Nat.two_pow_pos k
                    have hle : (t + 1) * 2 ^ k ≤ nw := by rw [HNW.out]; exact Nat.mul_le_mul_right _ (by omega)
                    have hsum : (t + 1) * 2 ^ k = t * 2 ^ k + 2 ^ k := by rw [Nat.add_mul]; omega
                    have hlen : nw ≤ 16384 := by rw [HNW.out]; exact prod_le n64 k8
                    have hle2 : p + z ≤ nw := by rw [hp, hz, ← hsum]; exact hle
                    have t2 : (t : Int) * 2 ^ k = p := by rw [hp]; simp
                    have t3 : ((t : Int) + 1) * 2 ^ k = (p : Int) + z := by
                      have : ((p + z : Nat) : Int) = ((t : Int) + 1) * 2 ^ k := by rw [hp, hz, ← hsum]; simp
                      rw [← this]; omega
                    rw [← hz] at pk
                    obtain ⟨ab, ao, rfl, hab, hcells⟩ := HA.out.2.2.2 (by omega)
                    have hc2 : ∀ j, j < z → (wr.alloc (.cells #[.int .i64 (-1), .int .i64 (-1), .int .i64 (-1)] 61)).cell? ⟨ab, ao + (p + j), none⟩ = some (.int .u64 (wd (p + j))) := by
                      intro j hj
                      exact (HBY.out.cell (p := ⟨ab, _, none⟩) hab).trans (hcells (p + j) (by omega))
                    have HC := Lib.hid hc2
                    have HP := Lib.hid hp
                    have HZ2 := Lib.hid hz
                    have pl : 0 ≤ (p : Int) ∧ (p : Int) ≤ 16384 := by omega
                    have pl2 : 0 ≤ (p : Int) + z ∧ (p : Int) + z ≤ 16384 := by omega
                    clear hF hnx hx0 hx1 hx2 hp hz hle hsum hcells hc2
                    go_wp2
                    go_loop [7] (fun a => ∃ j : Nat, j ≤ z ∧ a = .int .i64 ((p + j : Nat) : Int) ∧ ∀ i, i < j → wd (p + i) = 0) (fun a => p + z - (intOf a).toNat)
                    case atStart => exact ⟨0, by omega, rfl, fun i hi => by omega⟩
                    case round =>
                      obtain ⟨j, hj, rfl, hzero⟩ := hrel
                      have H0 := Lib.hid hzero
                      clear hzero
                      by_cases hjz : j < z
                      · have hc := HC.out j hjz
                        have hi : 0 ≤ ((p + j : Nat) : Int) ∧ ((p + j : Nat) : Int) < nw := by omega
                        have hi2 : ((p + j : Nat) : Int) < (p : Int) + z := by omega
                        obtain ⟨x, hx⟩ : ∃ x, x = wd (p + j) := ⟨_, rfl⟩
                        rw [← hx] at hc
                        by_cases hx0 : x = 0
                        · subst hx0
                          have HX := Lib.hid hx
                          clear hx
                          go_wp2
                          refine ⟨⟨j + 1, by omega, congrArg (Value.int IntKind.i64) (by omega), fun i hi => ?_⟩, by simp [intOf]; omega⟩
                          rcases (show i < j ∨ i = j by omega) with h | rfl
                          · exact H0.out i h
                          · exact HX.out.symm
                        · have hb : (x == 0) = false := by simpa using hx0
                          have hb2 : (x != 0) = true := by simpa using hx0
                          have HX := Lib.hid (HVN.out (frameB_no (by
                            have : zeroB wd k t = false := by
                              refine decide_eq_false fun h => hx0 ?_
                              rw [hx, HP.out]
                              exact h j (by rw [← HZ2.out]; exact hjz)
                            rw [this, Bool.and_false]) (by
                            refine ownB_no fun h => ?_
                            rw [HF.out] at h
                            have h1 := stB_yes h.1
                            have h2 : (0 : Int) ≤ -1 := h1.1
                            omega)))
                          clear hx hx0
                          go_wp2
                          go_ret
                          exact ⟨ret_bool HX.out, HBY.out⟩
                      · obtain rfl : j = z := by omega
                        have hi2 : ¬ ((p + j : Nat) : Int) < (p : Int) + j := by omega
                        have HZB : Hid (zeroB wd k t = true) := by
                          refine decide_eq_true fun a ha => ?_
                          rw [← HP.out]
                          exact H0.out a (by rw [HZ2.out]; exact ha)
                        go_wp2
                        refine ⟨⟨t + 1, by omega, by go_num, fun f hf => ?_, singleTo_none HSI.out HNX.out, HRX.out.congr (fun j _ => by rw [fol_none HNX.out]), HBX.out⟩, by simp [intOf]; omega⟩
                        rcases (show f < t ∨ f = t by omega) with h | rfl
                        · exact HFR.out f h
                        · exact frameB_free HF.out HZB.out
                  · have hb1 : (x2 == -1) = false := by simpa using e2
                    have hst : stB (-1) (-1) = false := by
                      rcases hq : stB (-1) (-1) with _ | _
                      · rfl
                      · have h2 : (0 : Int) ≤ -1 := (stB_yes hq).1
                        omega
                    have HST := Lib.hid hst
                    have HX := Lib.hid (HVN.out (frameB_no (by rw [frB_no (by rw [← hx0, ← hx1, ← hx2]; omega), Bool.false_and]) (ownB_no (fun h => by rw [← hx0, ← hx1, hst] at h; exact absurd h.1 (by simp)))))
                    clear hst hx0 hx1 hx2
                    go_wp2_with (go_at_call 60; refine (stamped_any _ _ _ _).mono ?_; rintro e v1 ⟨rfl, hb1⟩; rw [HST.out]; have HB1 := Lib.hid hb1; clear hb1)
                    go_ret
                    exact ⟨ret_bool HX.out, below_next HBY.out (Nat.le_refl _) HB1.out⟩
                · have hb1 : (x1 == -1) = false := by simpa using e1
                  have hst : stB x1 (-1) = false := by
                    rcases hq : stB x1 (-1) with _ | _
                    · rfl
                    · have h2 : (0 : Int) ≤ -1 := (stB_yes hq).1
                      omega
                  have HST := Lib.hid hst
                  have HX := Lib.hid (HVN.out (frameB_no (by rw [frB_no (by rw [← hx0, ← hx1, ← hx2]; omega), Bool.false_and]) (ownB_no (fun h => by rw [← hx0, ← hx1, hst] at h; exact absurd h.1 (by simp)))))
                  clear hst hx0 hx1 hx2
                  go_wp2_with (go_at_call 60; refine (stamped_any _ _ _ _).mono ?_; rintro e v1 ⟨rfl, hb1⟩; rw [HST.out]; have HB1 := Lib.hid hb1; clear hb1)
                  go_ret
                  exact ⟨ret_bool HX.out, below_next HBY.out (Nat.le_refl _) HB1.out⟩
              · have hb1 : (x0 == -1) = false := by simpa using e0
                rcases hst : stB x1 x0 with _ | _
                · have HST := Lib.hid hst
                  have HX := Lib.hid (HVN.out (frameB_no (by rw [frB_no (by rw [← hx0, ← hx1, ← hx2]; omega), Bool.false_and]) (ownB_no (fun h => by rw [← hx0, ← hx1, hst] at h; exact absurd h.1 (by simp)))))
                  clear hst hx0 hx1 hx2 e0
                  go_wp2_with (go_at_call 60; refine (stamped_any _ _ _ _).mono ?_; rintro e v1 ⟨rfl, hb1⟩; rw [HST.out]; have HB1 := Lib.hid hb1; clear hb1)
                  go_ret
                  exact ⟨ret_bool HX.out, below_next HBY.out (Nat.le_refl _) HB1.out⟩
                · have HST := Lib.hid hst
                  have HVS : Hid (¬ Single F n → false = validB k nw wd n F) := fun he => (validB_no fun h => he h.2.2.2.2.1).symm
                  have hx2b : 0 ≤ x2 ∨ x2 = -1 ∨ x2 < -1 := by omega
                  have HOW : Hid (stB (F t).st (F t).ow = true) := by rw [← hx0, ← hx1]; exact hst
                  have HX0 := Lib.hid hx0
                  have HX1 := Lib.hid hx1
                  have HX2 := Lib.hid hx2
                  have hfb : (frB (F t) frFree && zeroB wd k t) = false := by rw [frB_no (by rw [← hx0]; omega), Bool.false_and]
                  have HFB := Lib.hid hfb
                  clear hfb
                  clear hst hx0 hx1 hx2 e0
                  go_wp2_with fail
                  refine (stamped_any _ _ _ _).mono ?_
                  rintro e v1 ⟨rfl, hv1⟩
                  rw [HST.out]
                  have vz : wr.heap.size < v1.heap.size := by have := hv1.size; simp at this; omega
                  have r0 : v1.cell? ⟨wr.heap.size, 0, none⟩ = some (.int .i64 x0) := by rw [hv1.cell (p := ⟨wr.heap.size, 0, none⟩) (by simp)]; go_simp
                  have r1 : v1.cell? ⟨wr.heap.size, 1, none⟩ = some (.int .i64 x1) := by rw [hv1.cell (p := ⟨wr.heap.size, 1, none⟩) (by simp)]; go_simp
                  have r2 : v1.cell? ⟨wr.heap.size, 2, none⟩ = some (.int .i64 x2) := by rw [hv1.cell (p := ⟨wr.heap.size, 2, none⟩) (by simp)]; go_simp
                  have p2' : v1.cell? ⟨w.heap.size, 2, none⟩ = some (.slice (some ⟨b, o, none⟩) n c') := by rw [hv1.cell (p := ⟨w.heap.size, 2, none⟩) (by simp; omega)]; go_simp
                  have HRV : Hid (Row v1 g 100 64 (fun j => .int .i64 (if fol F t j then 1 else 0))) := HRX.out.next hv1
                  have HBV1 : Hid (Below g U v1) := HBX.out.trans (hv1.mono (by simp; omega))
                  have HBV2 : Hid (Below w.heap.size w v1) := below_next HBY.out (Nat.le_refl _) hv1
                  have HTV : Hid (Tab v1 v1.heap.size (some ⟨b, o, none⟩) n c' F) := HT.out.next HBV2.out
                  have gv : g < v1.heap.size := by omega
                  have bv : b < v1.heap.size := by omega
                  clear hv1 p0 p1 p2 c0 c1 c2
                  rcases hx2b with hpos | hm1 | hneg
                  · obtain ⟨y, rfl⟩ : ∃ y : Nat, x2 = y := ⟨x2.toNat, by omega⟩
                    have hym : ((y : Int) == -1) = false := by simp
                    have hyn : ¬ (y : Int) < -1 := by omega
                    by_cases hge : (n : Int) ≤ y
                    · have HX := Lib.hid (HVN.out (frameB_no HFB.out (ownB_no (fun h => by
                        rcases h.2 with h2 | ⟨g', h2, h3, _⟩
                        · rw [← HX2.out] at h2; omega
                        · rw [← HX2.out] at h2; omega))))
                      go_wp2
                      go_ret
                      exact ⟨ret_bool HX.out, HBV2.out⟩
                    · by_cases hyt : (y : Int) = t
                      · have HX := Lib.hid (HVN.out (frameB_no HFB.out (ownB_no (fun h => by
                          rcases h.2 with h2 | ⟨g', h2, h3, h4, _⟩
                          · rw [← HX2.out] at h2; omega
                          · rw [← HX2.out] at h2; omega))))
                        have hyb : ((y : Int) == (t : Int)) = true := by simpa using hyt
                        clear hyt
                        go_wp2
                        go_ret
                        exact ⟨ret_bool HX.out, HBV2.out⟩
                      · have hyb : ((y : Int) == (t : Int)) = false := by simpa using hyt
                        have yn : y < n := by omega
                        have y64 : y < 64 := by omega
                        have yi : 0 ≤ (y : Int) ∧ (y : Int) < n := by omega
                        have yi2 : (y : Int) < 64 := by omega
                        obtain ⟨_, d0, d1, d2⟩ := HTV.out.cells y yn
                        have n0 := HRV.out.cell y y64
                        have n1 := HRV.out.free y
                        obtain ⟨y0, hy0⟩ : ∃ a, a = (F y).ow := ⟨_, rfl⟩
                        obtain ⟨y1, hy1⟩ : ∃ a, a = (F y).st := ⟨_, rfl⟩
                        obtain ⟨y2, hy2⟩ : ∃ a, a = (F y).nx := ⟨_, rfl⟩
                        rw [← hy0] at d0
                        rw [← hy1] at d1
                        rw [← hy2] at d2
                        have HY0 := Lib.hid hy0
                        have HY1 := Lib.hid hy1
                        have HYT : Hid (y ≠ t) := fun e => hyt (by omega)
                        obtain ⟨q, hq, hq0, hq1⟩ : ∃ q : Int, q = (if fol F t y then 1 else 0) ∧ 0 ≤ q ∧ q ≤ 1 := ⟨_, rfl, by split <;> omega, by split <;> omega⟩
                        rw [← hq] at n0
                        have HQ := Lib.hid hq
                        have HBN : ∀ (u : Value) (o' : Obj), Hid (Below w.heap.size w ((v1.setCell ⟨g, y, none⟩ u).alloc o')) := fun u o' => (HBV2.out.setCell (p := ⟨g, y, none⟩) (Nat.le_of_lt gw) u).alloc (by simpa using HBV2.out.size) _
                        clear hy0 hy1 hy2 hyt hq
                        by_cases k0 : y0 = x0
                        · subst k0
                          by_cases k1 : y1 = x1
                          · subst k1
                            have hown : ownB n F t = true := ownB_of HOW.out (.inr ⟨y, HX2.out.symm, yn, HYT.out, by rw [← HY0.out, ← HX0.out], by rw [← HY1.out, ← HX1.out]⟩)
                            have HFT : Hid (frameB wd k n F t = true) := frameB_own hown
                            clear hown
                            rcases hfo : fol F t y with _ | _
                            · have hq2 : q = 0 := by rw [HQ.out, hfo]; rfl
                              subst hq2
                              have HF0 := Lib.hid hfo
                              have hrow := (HRV.out.set_ y y64 (.int .i64 1)).congr (f' := fun j => .int .i64 (if fol F (t + 1) j then 1 else 0)) (fun j _ => by
                                rw [fol_set HX2.out.symm]
                                by_cases e : j = y
                                · rw [if_pos e, if_pos e]; rfl
                                · rw [if_neg e, if_neg e])
                              have HRN := Lib.hid (hrow.next ((Below.refl _ _).alloc (Nat.le_refl _) (.cells #[.int .i64 y0, .int .i64 y1, .int .i64 y2] 61)))
                              have HBG : Hid (Below g U ((v1.setCell ⟨g, y, none⟩ (.int .i64 1)).alloc (.cells #[.int .i64 y0, .int .i64 y1, .int .i64 y2] 61))) := (HBV1.out.setCell (p := ⟨g, y, none⟩) (Nat.le_refl _) _).alloc (by simpa using Nat.le_of_lt gv) _
                              have HSN : Hid (SingleTo F (t + 1)) := singleTo_new HSI.out (by rw [← HX2.out]; exact HF0.out)
                              clear hfo hrow
                              go_wp2
                              refine ⟨⟨t + 1, by omega, by go_num, fun f hf => ?_, HSN.out, HRN.out, HBG.out⟩, by simp [intOf]; omega⟩
                              rcases (show f < t ∨ f = t by omega) with h | rfl
                              · exact HFR.out f h
                              · exact HFT.out
                            · have hq2 : q = 1 := by rw [HQ.out, hfo]; rfl
                              subst hq2
                              have HX := Lib.hid (HVS.out (single_not hlt (by rw [← HX2.out]; exact hfo) (by rw [← HX2.out]; omega)))
                              clear hfo
                              go_wp2
                              go_ret
                              exact ⟨ret_bool HX.out, (HBN _ _).out⟩
                          · have kb : (y1 == x1) = false := by simpa using k1
                            have HX := Lib.hid (HVN.out (frameB_no HFB.out (ownB_no (fun h => by
                              rcases h.2 with h2 | ⟨g', h2, h3, h4, h5, h6⟩
                              · rw [← HX2.out] at h2; omega
                              · rw [← HX2.out] at h2
                                obtain rfl : g' = y := by omega
                                exact k1 (by rw [HY1.out, HX1.out]; exact h6)))))
                            have kb2 : (y1 != x1) = true := by simpa using k1
                            clear k1
                            go_wp2
                            go_ret
                            exact ⟨ret_bool HX.out, (HBN _ _).out⟩
                        · have kb : (y0 == x0) = false := by simpa using k0
                          have HX := Lib.hid (HVN.out (frameB_no HFB.out (ownB_no (fun h => by
                            rcases h.2 with h2 | ⟨g', h2, h3, h4, h5, h6⟩
                            · rw [← HX2.out] at h2; omega
                            · rw [← HX2.out] at h2
                              obtain rfl : g' = y := by omega
                              exact k0 (by rw [HY0.out, HX0.out]; exact h5)))))
                          have kb2 : (y0 != x0) = true := by simpa using k0
                          clear k0
                          go_wp2
                          go_ret
                          exact ⟨ret_bool HX.out, (HBN _ _).out⟩
                  · subst hm1
                    have HFT : Hid (frameB wd k n F t = true) := frameB_own (ownB_of HOW.out (.inl HX2.out.symm))
                    have htm : ((-1 : Int) == (t : Int)) = false := by simp
                    have HRN : Hid (Row v1 g 100 64 (fun j => .int .i64 (if fol F (t + 1) j then 1 else 0))) := HRV.out.congr (fun j _ => by rw [fol_none HX2.out.symm])
                    have HSN : Hid (SingleTo F (t + 1)) := singleTo_none HSI.out HX2.out.symm
                    go_wp2
                    refine ⟨⟨t + 1, by omega, by go_num, fun f hf => ?_, HSN.out, HRN.out, HBV1.out⟩, by simp [intOf]; omega⟩
                    rcases (show f < t ∨ f = t by omega) with h | rfl
                    · exact HFR.out f h
                    · exact HFT.out
                  · have HX := Lib.hid (HVN.out (frameB_no HFB.out (ownB_no (fun h => by
                      rcases h.2 with h2 | ⟨g', h2, h3, _⟩
                      · rw [← HX2.out] at h2; omega
                      · rw [← HX2.out] at h2; omega))))
                    go_wp2
                    go_ret
                    exact ⟨ret_bool HX.out, HBV2.out⟩
            · obtain rfl : n = t := by omega
              have hlt2 : ¬ (n : Int) < n := by omega
              have HS2 : Hid (Single F n) := HSI.out
              have HI : Hid (Inside F n) := inside_of HFR.out
              have HTR : Hid (Tab wr w.heap.size A' n c' F) := HT.out.below HBR.out
              have HVB : Hid (Ends F n → true = validB k nw wd n F) := fun he => (validB_yes ⟨HS.out, HN.out, by rw [Int.toNat_natCast]; exact HNW.out, by rw [Int.toNat_natCast]; exact HFR.out, HS2.out, he⟩).symm
              have HVN : Hid (¬ Ends F n → false = validB k nw wd n F) := fun he => (validB_no fun h => he h.2.2.2.2.2).symm
              clear hlt ht HSI
              go_wp2
              go_loop [9, 10, 11, 138] (fun _ _ _ i => ∃ t : Nat, t ≤ n ∧ i = .int .i64 t ∧ ∀ f, f < t → iter F (n + 1) (f : Nat) = -1) (fun _ _ _ i => n - (intOf i).toNat)
              case atStart => exact ⟨0, by omega, rfl, fun f hf => by omega⟩
              case round =>
                obtain ⟨t, ht, rfl, hend⟩ := hrel
                have HE := Lib.hid hend
                clear hend
                by_cases hlt : t < n
                · have hlt3 : (t : Int) < n := by omega
                  go_wp2
                  go_loop [10, 11] (fun f q => ∃ j : Nat, j ≤ n + 1 ∧ q = .int .i64 j ∧ f = .int .i64 (iter F j t)) (fun _ q => n + 1 - (intOf q).toNat)
                  case atStart => exact ⟨0, by omega, rfl, rfl⟩
                  case round =>
                    obtain ⟨j, hj, rfl, rfl⟩ := hrel
                    have ir := iter_in HI.out hlt j
                    by_cases he : iter F j t = -1
                    · have HX : Hid (iter F (n + 1) t = -1) := iter_stay F he hj
                      rw [he]
                      clear he ir
                      by_cases hjn : (j : Int) ≤ n
                      · go_wp2
                        refine ⟨⟨t + 1, by omega, by go_num, fun f hf => ?_⟩, by simp [intOf]; omega⟩
                        rcases (show f < t ∨ f = t by omega) with h | rfl
                        · exact HE.out f h
                        · exact HX.out
                      · go_wp2
                        refine ⟨⟨t + 1, by omega, by go_num, fun f hf => ?_⟩, by simp [intOf]; omega⟩
                        rcases (show f < t ∨ f = t by omega) with h | rfl
                        · exact HE.out f h
                        · exact HX.out
                    · obtain ⟨y, hy⟩ : ∃ y : Nat, iter F j t = y := ⟨(iter F j t).toNat, by omega⟩
                      have y1 : y < n := by omega
                      have hb1 : ((y : Int) == -1) = false := by simp
                      have yb : 0 ≤ (y : Int) ∧ (y : Int) < n := by omega
                      by_cases hjn : (j : Int) ≤ n
                      · have hnx : iter F (j + 1) t = (F y).nx := by rw [iter_succ, if_neg he, hy, Int.toNat_natCast]
                        have HNX := Lib.hid hnx
                        obtain ⟨b, o, rfl, hbb⟩ := HTR.out.base_ (by omega)
                        obtain ⟨_, _, _, c2⟩ := HTR.out.cells y y1
                        rw [hy]
                        clear hy he ir hnx
                        go_wp2
                        refine ⟨⟨j + 1, by omega, by go_num, by rw [HNX.out]⟩, by simp [intOf]; omega⟩
                      · have hne : ¬ Ends F n := fun h => he (by have h1 := h t hlt; rw [show j = n + 1 by omega]; exact h1)
                        have HX := Lib.hid (HVN.out hne)
                        rw [hy]
                        clear hy he ir hne
                        go_wp2
                        go_ret
                        exact ⟨ret_bool HX.out, HBR.out⟩
                · obtain rfl : n = t := by omega
                  have hlt3 : ¬ (n : Int) < n := by omega
                  have HX := Lib.hid (HVB.out HE.out)
                  go_wp2
                  go_ret
                  exact ⟨ret_bool HX.out, HBR.out⟩
        · have hv : validB k nw wd n F = false := validB_no fun h => hw (by have h1 := h.2.2.1; rw [Int.toNat_natCast] at h1; exact h1)
          have hb : ((nw : Int) == (n : Int) * 2 ^ k) = false := by rw [← hpc]; simp; omega
          have hb2 : ((nw : Int) != (n : Int) * 2 ^ k) = true := by rw [bne, hb]; rfl
          rw [hv]
          clear hw hpc hv
          go_enter Try.func31, Try.ntmps31
          go_wp2_with (go_at_call 36; refine (refShift_any _ _).mono ?_; rintro e w' ⟨rfl, rfl⟩; rw [HS.out])
          go_ret
          exact ⟨rfl, HB0.out⟩
end Go.Proofs.Ytjkbjbikofindaa
