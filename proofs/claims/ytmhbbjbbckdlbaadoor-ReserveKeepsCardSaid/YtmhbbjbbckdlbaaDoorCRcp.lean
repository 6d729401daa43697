/-
  The reference's Complete and Cap.
-/
import Derived.Test.YtmhbbjbbckdlbaaDoorCRef
import Derived.Test.YtmhbbjbbckdlbaaDoorCCap
namespace Go.Proofs.YtmhbbjbbckdlbaaDoor
open Go.RowKit
set_option maxRecDepth 100000
set_option linter.unusedVariables false

set_option maxHeartbeats 4000000 in
theorem refComplete_any (s : ByteArray) (A : Option Addr) (c : Nat) (R : List Rl) (f : Int) (w : World) (hR : RArr w (Lt w.heap.size) A c R) (hW : WfR R) (hs : s.size ≤ 9223372036854775807) :
    Calls Tryd.prog 21 #[.agg #[.string s, .slice A R.length c, .int .i64 f]] w fun e w' => e = .returned (.bool (cplB s R f)) ∧ Below w.heap.size w w' := by
  obtain ⟨U, hU⟩ : ∃ U, U = w.alloc (.cells #[.string s, .slice A R.length c, .int .i64 f] 27) := ⟨_, rfl⟩
  have BS := Lib.hid (show Blk U w.heap.size 27 #[.string s, .slice A R.length c, .int .i64 f] by rw [hU]; exact Blk.new _ _ _)
  have HBU : Hid (Below w.heap.size w U) := by rw [hU]; exact Lib.hid ((Below.refl _ _).alloc (Nat.le_refl _) _)
  have HU := Lib.hid hU
  have HR := Lib.hid (hR.next HBU.out)
  have zU : w.heap.size < U.heap.size := BS.out.lt
  have hc := refCheck_any s A c R f U HR.out hW hs
  have hm := hR.2.1
  have hm' := hR.1
  simp only [maxLen] at hm
  have e : cplB s R f = (decide (chk s R f = 0) && decide (lastS R = 0)) := rfl
  rw [e]
  clear hR hU e
  by_cases hk : chk s R f = 0
  · obtain ⟨hn, hls⟩ := chk_last hk
    obtain ⟨r, hr⟩ := gt_of (l := R) (j := R.length - 1) (by omega)
    have hw : IntKind.i64.wrap ((R.length : Int) - 1) = ((R.length - 1 : Nat) : Int) := by rw [IntWalk.i64_in _ (by omega)]; omega
    have hj2 : 0 ≤ ((R.length - 1 : Nat) : Int) ∧ ((R.length - 1 : Nat) : Int) < R.length := by omega
    have HR2 := Lib.hid (fun (W : World) (h : RArr W (Lt W.heap.size) A c R) => by
      have h1 := h.at_ hr
      rw [← lastS_is hr] at h1
      exact h1)
    rw [hk] at hc
    rw [decide_eq_true hk, Bool.true_and]
    clear hk hr
    generalize lastS R = x at *
    generalize R.length - 1 = m at *
    have e0 : (x = 0 ∧ FloatKind.f64.format.order x 0 = some .eq) ∨ (x ≠ 0 ∧ FloatKind.f64.format.order x 0 = some .gt) := by
      by_cases h0 : x = 0
      · subst h0
        exact .inl ⟨rfl, Sh.fo_eq (by decide) (by decide) rfl⟩
      · exact .inr ⟨h0, Sh.fo_zero (x := x) (by omega) hls⟩
    rcases e0 with ⟨h0, e0⟩ | ⟨h0, e0⟩
    · rw [decide_eq_true h0]
      clear h0
      go_enter Tryd.func21, Tryd.ntmps21
      go_wp2_with fail
      rw [← HU.out]
      refine hc.mono ?_
      rintro e w2 ⟨rfl, hb2⟩
      have HB2 := Lib.hid hb2
      have BSR := BS.out.next HB2.out
      have p0 := BSR.cell 0
      have p1 := BSR.cell 1
      have p2 := BSR.cell 2
      simp at p0 p1 p2
      obtain ⟨g, o, rfl, _, hbz, c0, _⟩ := HR2.out _ (HR.out.next HB2.out)
      clear hc hb2 BSR
      go_wp2
      go_ret
      exact ⟨rfl, below_step HBU.out (Nat.le_of_lt zU) HB2.out⟩
    · rw [decide_eq_false h0]
      clear h0
      go_enter Tryd.func21, Tryd.ntmps21
      go_wp2_with fail
      rw [← HU.out]
      refine hc.mono ?_
      rintro e w2 ⟨rfl, hb2⟩
      have HB2 := Lib.hid hb2
      have BSR := BS.out.next HB2.out
      have p0 := BSR.cell 0
      have p1 := BSR.cell 1
      have p2 := BSR.cell 2
      simp at p0 p1 p2
      obtain ⟨g, o, rfl, _, hbz, c0, _⟩ := HR2.out _ (HR.out.next HB2.out)
      clear hc hb2 BSR
      go_wp2
      go_ret
      exact ⟨rfl, below_step HBU.out (Nat.le_of_lt zU) HB2.out⟩
  · have hk2 : (chk s R f == 0) = false := by simpa using hk
    rw [decide_eq_false hk, Bool.false_and]
    clear hk
    generalize chk s R f = K at *
    go_enter Tryd.func21, Tryd.ntmps21
    go_wp2_with fail
    rw [← HU.out]
    refine hc.mono ?_
    rintro e w2 ⟨rfl, hb2⟩
    have HB2 := Lib.hid hb2
    clear hc hb2
    go_wp2
    go_ret
    exact ⟨rfl, below_step HBU.out (Nat.le_of_lt zU) HB2.out⟩

end Go.Proofs.YtmhbbjbbckdlbaaDoor
