/-
  Rules: isCount, isTargetOf, checkRule, isTargetOfOne, areAllTargets, isFull, hasUncappedEnd.
-/
import Derived.Test.YtmhbbjbbckdlbaaDoorCRow
import Derived.Outline
import Derived.LoopTactic
namespace Go.Proofs.YtmhbbjbbckdlbaaDoor
open Go.RowKit
set_option maxRecDepth 100000
set_option linter.unusedVariables false

theorem isCount_any (n : Int) (w : World) : Calls Tryd.prog 79 #[.int .i64 n] w fun e w' => e = .returned (.bool (decide (0 ≤ n ∧ n ≤ 64))) ∧ w = w' := by
  by_cases h1 : 0 ≤ n
  · by_cases h2 : n ≤ 64
    · go_enter Tryd.func79, Tryd.ntmps79
      go_wp2
      go_ret
      exact ⟨ret_bool (by simp [h1, h2]), rfl⟩
    · go_enter Tryd.func79, Tryd.ntmps79
      go_wp2
      go_ret
      exact ⟨ret_bool (by simp; omega), rfl⟩
  · go_enter Tryd.func79, Tryd.ntmps79
    go_wp2
    go_ret
    exact ⟨ret_bool (by simp; omega), rfl⟩
theorem isTargetOf_any (n b : Nat) (r : Rl) (w : World) (hb : b < n) : Calls Tryd.prog 80 #[.int .i64 r.t, .int .i64 b, .int .i64 ((n : Int) - 1)] w fun e w' => e = .returned (.bool (decide (tgtOk n b r))) ∧ w = w' := by
  obtain ⟨t, ht⟩ : ∃ t, t = r.t := ⟨_, rfl⟩
  have HT := Lib.hid ht
  rw [← ht]
  clear ht
  by_cases h : b + 1 = n
  · have hb2 : ((b : Int) == (n : Int) - 1) = true := by simp; omega
    have HH := Lib.hid h
    clear h
    go_enter Tryd.func80, Tryd.ntmps80
    go_wp2
    go_ret
    refine ⟨ret_bool ?_, rfl⟩
    have := HH.out
    have e : (t == (n : Int) - 1) = decide (t = (b : Int)) := by
      rw [Bool.eq_iff_iff]; simp; omega
    simp only [tgtOk, if_pos this, ← HT.out, e]
  · have hb2 : ((b : Int) == (n : Int) - 1) = false := by simp; omega
    have HH := Lib.hid h
    clear h
    by_cases h1 : (b : Int) < t
    · by_cases h2 : t ≤ (n : Int) - 1
      · go_enter Tryd.func80, Tryd.ntmps80
        go_wp2
        go_ret
        refine ⟨ret_bool ?_, rfl⟩
        simp only [tgtOk, if_neg HH.out, ← HT.out]
        exact (decide_eq_true (by omega)).symm
      · go_enter Tryd.func80, Tryd.ntmps80
        go_wp2
        go_ret
        refine ⟨ret_bool ?_, rfl⟩
        simp only [tgtOk, if_neg HH.out, ← HT.out]
        exact (decide_eq_false (by omega)).symm
    · go_enter Tryd.func80, Tryd.ntmps80
      go_wp2
      go_ret
      refine ⟨ret_bool ?_, rfl⟩
      simp only [tgtOk, if_neg HH.out, ← HT.out]
      exact (decide_eq_false (by omega)).symm
theorem isFull_any (f : Int) (x : Nat) (w : World) : Calls Tryd.prog 70 #[.int .i64 f, .bool (decide (x = 0))] w fun e w' => e = .returned (.bool (fullB x f)) ∧ w = w' := by
  by_cases h : x = 0
  · rw [decide_eq_true h, show fullB x f = decide (1 ≤ f ∧ f ≤ 64) by unfold fullB; rw [if_pos h]]
    clear h
    by_cases h1 : 1 ≤ f
    · by_cases h2 : f ≤ 64
      · go_enter Tryd.func70, Tryd.ntmps70
        go_wp2
        go_ret
        exact ⟨ret_bool (by simp [h1, h2]), rfl⟩
      · go_enter Tryd.func70, Tryd.ntmps70
        go_wp2
        go_ret
        exact ⟨ret_bool (by simp; omega), rfl⟩
    · go_enter Tryd.func70, Tryd.ntmps70
      go_wp2
      go_ret
      exact ⟨ret_bool (by simp; omega), rfl⟩
  · rw [decide_eq_false h, show fullB x f = decide (f = 0) by unfold fullB; rw [if_neg h]]
    clear h
    go_enter Tryd.func70, Tryd.ntmps70
    go_wp2
    go_ret
    exact ⟨ret_bool (by rw [Bool.eq_iff_iff]; simp), rfl⟩

/-- The share of the last rule is 0. -/
theorem uncapped_any (A : Option Addr) (c : Nat) (R : List Rl) (w : World) (hR : RArr w (Lt w.heap.size) A c R) (hn : 0 < R.length) (hok : lastS R ≤ 4607182418800017408) :
    Calls Tryd.prog 51 #[.slice A R.length c] w fun e w' => e = .returned (.bool (decide (lastS R = 0))) ∧ w = w' := by
  obtain ⟨r, hr⟩ := gt_of (l := R) (j := R.length - 1) (by omega)
  obtain ⟨b, o, rfl, _, hbz, c0, _⟩ := hR.at_ hr
  have hm := hR.2.1
  have hm' := hR.1
  simp only [maxLen] at hm
  have e := lastS_is hr
  rw [← e] at c0
  have hw : IntKind.i64.wrap ((R.length : Int) - 1) = ((R.length - 1 : Nat) : Int) := by rw [IntWalk.i64_in _ (by omega)]; omega
  have hi : 0 ≤ ((R.length - 1 : Nat) : Int) ∧ ((R.length - 1 : Nat) : Int) < R.length := by omega
  generalize lastS R = x at *
  generalize R.length - 1 = k at *
  generalize R.length = m at *
  clear hR hr e
  by_cases h0 : x = 0
  · subst h0
    have e0 : FloatKind.f64.format.order 0 0 = some .eq := Sh.fo_eq (by decide) (by decide) rfl
    go_enter Tryd.func51, Tryd.ntmps51
    go_wp2
    go_ret
    exact ⟨ret_bool (by simp), rfl⟩
  · have e0 := Sh.fo_zero (x := x) (by omega) hok
    rw [decide_eq_false h0]
    go_enter Tryd.func51, Tryd.ntmps51
    go_wp2
    go_ret
    exact ⟨rfl, rfl⟩

theorem stF (a : Addr) (x : Nat) (m : Mode) (W : World) : (store a (.float .f64 x) m).run Tryd.prog W = stored Tryd.prog W a (.float .f64 x) m := run_store Tryd.prog W a _ m rfl
theorem isTargetOfOne_any (A : Option Addr) (c : Nat) (R : List Rl) (b : Int) (w : World) (hR : RArr w (Lt w.heap.size) A c R) :
    Calls Tryd.prog 81 #[.slice A R.length c, .int .i64 b] w fun e w' => e = .returned (.bool (R.any fun r => decide (r.t = b))) ∧ Below w.heap.size w w' := by
  have hm := hR.2.1
  have hm' := hR.1
  simp only [maxLen] at hm
  have HR := Lib.hid hR
  clear hR
  have hst := stF
  go_enter Tryd.func81, Tryd.ntmps81
  go_wp2_with fail
  go_loopw [9] (fun i wr => ∃ k : Nat, k ≤ R.length ∧ i = .int .i64 k ∧ (∀ (j : Nat) (r : Rl), j < k → R[j]? = some r → r.t ≠ b) ∧ Below w.heap.size w wr) (fun i _ => R.length - (intOf i).toNat)
  case atStart => exact ⟨0, Nat.zero_le _, rfl, fun j _ hj => by omega, Below.refl _ _⟩
  case round =>
    obtain ⟨k, hk, rfl, hno, hb⟩ := hrel
    have HNO := Lib.hid hno
    have HB := Lib.hid hb
    clear hno hb
    by_cases hlt : k < R.length
    · have hlt2 : 0 ≤ (k : Int) ∧ (k : Int) < R.length := by omega
      obtain ⟨r, hr⟩ := gt_of hlt
      obtain ⟨g, o, e, _, hbz, c0, c1, c2, c3⟩ := (HR.out.next HB.out).at_ hr
      subst e
      have HRR := Lib.hid hr
      clear hr
      obtain ⟨x, hx⟩ : ∃ x, x = r.t := ⟨_, rfl⟩
      rw [← hx] at c3
      have HX := Lib.hid hx
      clear hx
      by_cases he : x = b
      · subst he
        go_wp2
        go_ret
        refine ⟨ret_bool (Eq.symm ?_), HB.out.alloc HB.out.size _⟩
        rw [List.any_eq_true]
        exact ⟨r, List.mem_iff_getElem?.2 ⟨k, HRR.out⟩, decide_eq_true HX.out.symm⟩
      · have he2 : (x == b) = false := by simpa using he
        have HE := Lib.hid he
        clear he
        go_wp2
        exact ⟨⟨k + 1, by omega, by go_num, fun j y hj hy => by
          rcases (by omega : j < k ∨ j = k) with h | h
          · exact HNO.out j y h hy
          · subst h
            rw [HRR.out] at hy
            injection hy with hy
            subst hy
            rw [← HX.out]
            exact HE.out, HB.out.alloc HB.out.size _⟩, by simp [intOf]; omega⟩
    · have hlt2 : ¬ (k : Int) < R.length := by omega
      go_wp2
      go_ret
      refine ⟨ret_bool (Eq.symm ?_), HB.out⟩
      rw [List.any_eq_false]
      intro r hr
      obtain ⟨j, hj⟩ := List.mem_iff_getElem?.1 hr
      have := HNO.out j r (by have := gt_lt hj; omega) hj
      simpa using this

set_option maxHeartbeats 2000000 in
theorem areAll_any (A : Option Addr) (c : Nat) (R : List Rl) (w : World) (hR : RArr w (Lt w.heap.size) A c R) :
    Calls Tryd.prog 69 #[.slice A R.length c] w fun e w' => e = .returned (.bool (allB R)) ∧ Below w.heap.size w w' := by
  have hm := hR.2.1
  have hm' := hR.1
  simp only [maxLen] at hm
  have HR := Lib.hid hR
  clear hR
  go_enter Tryd.func69, Tryd.ntmps69
  go_wp2_with fail
  go_loopw [3] (fun i wr => ∃ k : Nat, 1 ≤ k ∧ (k ≤ R.length ∨ k = 1) ∧ i = .int .i64 k ∧ (∀ j, 1 ≤ j → j < k → aimB R j = true) ∧ Below w.heap.size w wr) (fun i _ => R.length - (intOf i).toNat)
  case atStart => exact ⟨1, by omega, .inr rfl, rfl, fun j hj => by omega, Below.refl _ _⟩
  case round =>
    obtain ⟨k, hk1, hk, rfl, hno, hb⟩ := hrel
    have HNO := Lib.hid hno
    have HB := Lib.hid hb
    clear hno hb
    by_cases hlt : k < R.length
    · have hlt2 : (k : Int) < R.length := by omega
      have hkc : ¬ (c : Int) < k := by omega
      have hk0 : ¬ (k : Int) < 0 := by omega
      obtain ⟨r, hr⟩ := gt_of hlt
      obtain ⟨g, o, e, _, hbz, c0, _⟩ := (HR.out.next HB.out).at_ hr
      subst e
      have hl : (R.take k).length = k := by rw [List.length_take]; omega
      have hc := isTargetOfOne_any (some ⟨g, o, none⟩) c (R.take k) k wr ((HR.out.next HB.out).take k)
      rw [hl] at hc
      have HC := Lib.hid hc
      clear hc hr c0 hl hk
      go_wp2_with fail
      refine HC.out.mono ?_
      rintro e w2 ⟨rfl, hb2⟩
      have HB2 : Hid (Below w.heap.size w w2) := Lib.hid (HB.out.trans (hb2.mono HB.out.size))
      clear hb2 HC
      rcases ha : ((R.take k).any fun r => decide (r.t = (k : Int))) with _ | _
      · have HA := Lib.hid ha
        clear ha
        go_wp2
        go_ret
        refine ⟨ret_bool (Eq.symm ?_), HB2.out⟩
        rcases e : allB R with _ | _
        · rfl
        · have := (allB_iff R).1 e k hk1 hlt
          have h2 := HA.out
          unfold aimB at this
          rw [this] at h2
          cases h2
      · have HA := Lib.hid ha
        clear ha
        go_wp2
        exact ⟨⟨k + 1, by omega, .inl (by omega), by go_num, fun j h1 hj => by
          rcases (by omega : j < k ∨ j = k) with h | h
          · exact HNO.out j h1 h
          · subst h
            exact HA.out, HB2.out⟩, by simp [intOf]; omega⟩
    · have hlt2 : ¬ (k : Int) < R.length := by omega
      have HA := Lib.hid ((allB_iff R).2 fun b h1 h2 => HNO.out b h1 (by omega))
      go_wp2
      go_ret
      exact ⟨ret_bool HA.out.symm, HB.out⟩
end Go.Proofs.YtmhbbjbbckdlbaaDoor
