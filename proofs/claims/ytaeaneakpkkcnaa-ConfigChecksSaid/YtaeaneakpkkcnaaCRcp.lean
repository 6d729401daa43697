/-
  The reference's Complete and Cap.
-/
import Derived.Test.YtaeaneakpkkcnaaCRef
import Derived.Test.YtaeaneakpkkcnaaCCap
namespace Go.Proofs.Ytaeaneakpkkcnaa
open Go.RowKit
set_option maxRecDepth 100000
set_option linter.unusedVariables false

set_option maxHeartbeats 4000000 in
theorem refComplete_any (s : ByteArray) (A : Option Addr) (c : Nat) (R : List Rl) (f : Int) (w : World) (hR : RArr w (Lt w.heap.size) A c R) (hW : WfR R) (hs : s.size ≤ 9223372036854775807) :
    Calls Try.prog 13 #[.agg #[.string s, .slice A R.length c, .int .i64 f]] w fun e w' => e = .returned (.bool (cplB s R f)) ∧ Below w.heap.size w w' := by
  obtain ⟨U, hU⟩ : ∃ U, U = w.alloc (.cells #[.string s, .slice A R.length c, .int .i64 f] 24) := ⟨_, rfl⟩
  have BS := Lib.hid (show Blk U w.heap.size 24 #[.string s, .slice A R.length c, .int .i64 f] by rw [hU]; exact Blk.new _ _ _)
  have HBU : Hid (Below w.heap.size w U) := by rw [hU]; exact Lib.hid ((Below.refl _ _).alloc (Nat.le_refl _) _)
  have HU := Lib.hid hU
  have HR := Lib.hid (hR.next HBU.out)
  have zU : w.heap.size < U.heap.size := BS.out.lt
  have hc := refCheck_any s A c R f U HR.out hW hs
  have hm := hR.2.1
  have hm' := hR.1
  simp only [maxLen] at hm
  have e : cplB s R f = (decide (chk s R f = 0) && decide (lastS R = 0)) := rfl
  rw [e]
  clear hR hU e
  by_cases hk : chk s R f = 0
  · obtain ⟨hn, hls⟩ := chk_last hk
    obtain ⟨r, hr⟩ := gt_of (l := R) (j := R.length - 1) (by omega)
    have hw : IntKind.i64.wrap ((R.length : Int) - 1) = ((R.length - 1 : Nat) : Int) := by rw [IntWalk.i64_in _ (by omega)]; omega
    have hj2 : 0 ≤ ((R.length - 1 : Nat) : Int) ∧ ((R.length - 1 : Nat) : Int) < R.length := by omega
    have HR2 := Lib.hid (fun (W : World) (h : RArr W (Lt W.heap.size) A c R) => by
      have h1 := h.at_ hr
      rw [← lastS_is hr] at h1
      exact h1)
    rw [hk] at hc
    rw [decide_eq_true hk, Bool.true_and]
    clear hk hr
    generalize lastS R = x at *
    generalize R.length - 1 = m at *
    have e0 : (x = 0 ∧ FloatKind.f64.format.order x 0 = some .eq) ∨ (x ≠ 0 ∧ FloatKind.f64.format.order x 0 = some .gt) := by
      by_cases h0 : x = 0
      · subst h0
        exact .inl ⟨rfl, Sh.fo_eq (by decide) (by decide) rfl⟩
      · exact .inr ⟨h0, Sh.fo_zero (x := x) (by omega) hls⟩
    rcases e0 with ⟨h0, e0⟩ | ⟨h0, e0⟩
    · rw [decide_eq_true h0]
      clear h0
      go_enter Try.func13, Try.ntmps13
      go_wp2_with fail
      rw [← HU.out]
      refine hc.mono ?_
      rintro e w2 ⟨rfl, hb2⟩
      have HB2 := Lib.hid hb2
      have BSR := BS.out.next HB2.out
      have p0 := BSR.cell 0
      have p1 := BSR.cell 1
      have p2 := BSR.cell 2
      simp at p0 p1 p2
      obtain ⟨g, o, rfl, _, hbz, c0, _⟩ := HR2.out _ (HR.out.next HB2.out)
      clear hc hb2 BSR
      go_wp2
      go_ret
      exact ⟨rfl, below_step HBU.out (Nat.le_of_lt zU) HB2.out⟩
    · rw [decide_eq_false h0]
      clear h0
      go_enter Try.func13, Try.ntmps13
      go_wp2_with fail
      rw [← HU.out]
      refine hc.mono ?_
      rintro e w2 ⟨rfl, hb2⟩
      have HB2 := Lib.hid hb2
      have BSR := BS.out.next HB2.out
      have p0 := BSR.cell 0
      have p1 := BSR.cell 1
      have p2 := BSR.cell 2
      simp at p0 p1 p2
      obtain ⟨g, o, rfl, _, hbz, c0, _⟩ := HR2.out _ (HR.out.next HB2.out)
      clear hc hb2 BSR
      go_wp2
      go_ret
      exact ⟨rfl, below_step HBU.out (Nat.le_of_lt zU) HB2.out⟩
  · have hk2 : (chk s R f == 0) = false := by simpa using hk
    rw [decide_eq_false hk, Bool.false_and]
    clear hk
    generalize chk s R f = K at *
    go_enter Try.func13, Try.ntmps13
    go_wp2_with fail
    rw [← HU.out]
    refine hc.mono ?_
    rintro e w2 ⟨rfl, hb2⟩
    have HB2 := Lib.hid hb2
    clear hc hb2
    go_wp2
    go_ret
    exact ⟨rfl, below_step HBU.out (Nat.le_of_lt zU) HB2.out⟩

set_option maxHeartbeats 4000000 in
theorem refCap_any (s : ByteArray) (A : Option Addr) (c : Nat) (R : List Rl) (f b n : Int) (w : World) (hR : RArr w (Lt w.heap.size) A c R) (hW : WfR R) (hs : s.size ≤ 9223372036854775807) :
    Calls Try.prog 16 #[.agg #[.string s, .slice A R.length c, .int .i64 f], .int .i64 b, .int .i64 n] w (Gives2 (capK s R f b n) (capE s R f b n) w) := by
  obtain ⟨U, hU⟩ : ∃ U, U = w.alloc (.cells #[.string s, .slice A R.length c, .int .i64 f] 24) := ⟨_, rfl⟩
  have BS := Lib.hid (show Blk U w.heap.size 24 #[.string s, .slice A R.length c, .int .i64 f] by rw [hU]; exact Blk.new _ _ _)
  have HBU : Hid (Below w.heap.size w U) := by rw [hU]; exact Lib.hid ((Below.refl _ _).alloc (Nat.le_refl _) _)
  have HU := Lib.hid hU
  have HR := Lib.hid (hR.next HBU.out)
  have zU : w.heap.size < U.heap.size := BS.out.lt
  have hc := refCheck_any s A c R f U HR.out hW hs
  have hm := hR.2.1
  have hm' := hR.1
  simp only [maxLen] at hm
  have HW := Lib.hid hW
  clear hR hU hW
  by_cases hk : chk s R f = 0
  · by_cases h0 : b < 0
    · obtain ⟨e1, e2⟩ := cap_no (s := s) (R := R) (f := f) (b := b) (n := n) (fun h => by omega)
      rw [e1, e2]
      rw [hk] at hc
      clear e1 e2 hk
      go_enter Try.func16, Try.ntmps16
      go_wp2_with fail
      rw [← HU.out]
      refine hc.mono ?_
      rintro e w2 ⟨rfl, hb2⟩
      have HB2 := Lib.hid hb2
      clear hc hb2
      go_wp2
      go_ret2
      exact ⟨rfl, below_step HBU.out (Nat.le_of_lt zU) HB2.out⟩
    · by_cases h1 : (R.length : Int) ≤ b
      · obtain ⟨e1, e2⟩ := cap_no (s := s) (R := R) (f := f) (b := b) (n := n) (fun h => by omega)
        rw [e1, e2]
        rw [hk] at hc
        clear e1 e2 hk
        go_enter Try.func16, Try.ntmps16
        go_wp2_with fail
        rw [← HU.out]
        refine hc.mono ?_
        rintro e w2 ⟨rfl, hb2⟩
        have HB2 := Lib.hid hb2
        have BSR := BS.out.next HB2.out
        have p0 := BSR.cell 0
        have p1 := BSR.cell 1
        have p2 := BSR.cell 2
        simp at p0 p1 p2
        clear hc hb2 BSR
        go_wp2
        go_ret2
        exact ⟨rfl, below_step HBU.out (Nat.le_of_lt zU) HB2.out⟩
      · obtain ⟨k, rfl⟩ := Int.eq_ofNat_of_zero_le (show 0 ≤ b by omega)
        obtain ⟨r, hr⟩ := gt_of (l := R) (j := k) (by omega)
        obtain ⟨e1, e2⟩ := cap_yes (n := n) hk hr
        rw [e1, e2]
        have hsok : Sh.okF r.s = true := (ruleE_ok ((chk_ok hk).2.2.2.1 k r hr)).1
        have hk2 : 0 ≤ (k : Int) ∧ (k : Int) < R.length := by omega
        have hx : Sh.frK r.s n = Sh.frK r.s n ∧ (¬ (1 ≤ n ∧ n ≤ 64) → Sh.frK r.s n = 0 ∧ Sh.frE r.s n = 1) := ⟨rfl, fun h => by unfold Sh.frK Sh.frE; rw [hsok, if_pos rfl, if_pos rfl, if_neg h, if_neg h]; exact ⟨rfl, rfl⟩⟩
        have hx := hx.2
        by_cases n1 : n < 1
        · obtain ⟨e3, e4⟩ := hx (by omega)
          rw [e3, e4]
          rw [hk] at hc
          clear e1 e2 hk e3 e4 hx hr
          go_enter Try.func16, Try.ntmps16
          go_wp2_with fail
          rw [← HU.out]
          refine hc.mono ?_
          rintro e w2 ⟨rfl, hb2⟩
          have HB2 := Lib.hid hb2
          have BSR := BS.out.next HB2.out
          have p0 := BSR.cell 0
          have p1 := BSR.cell 1
          have p2 := BSR.cell 2
          simp at p0 p1 p2
          clear hc hb2 BSR
          go_wp2
          go_ret2
          exact ⟨rfl, below_step HBU.out (Nat.le_of_lt zU) HB2.out⟩
        · by_cases n2 : 64 < n
          · obtain ⟨e3, e4⟩ := hx (by omega)
            rw [e3, e4]
            rw [hk] at hc
            clear e1 e2 hk e3 e4 hx hr
            go_enter Try.func16, Try.ntmps16
            go_wp2_with fail
            rw [← HU.out]
            refine hc.mono ?_
            rintro e w2 ⟨rfl, hb2⟩
            have HB2 := Lib.hid hb2
            have BSR := BS.out.next HB2.out
            have p0 := BSR.cell 0
            have p1 := BSR.cell 1
            have p2 := BSR.cell 2
            simp at p0 p1 p2
            clear hc hb2 BSR
            go_wp2
            go_ret2
            exact ⟨rfl, below_step HBU.out (Nat.le_of_lt zU) HB2.out⟩
          · clear hx hsok
            have hf := fun W => Sh.refFrames_any r.s n (HW.out k r hr) W
            rw [hk] at hc
            clear e1 e2 hk
            go_enter Try.func16, Try.ntmps16
            go_wp2_with fail
            rw [← HU.out]
            refine hc.mono ?_
            rintro e w2 ⟨rfl, hb2⟩
            have HB2 := Lib.hid hb2
            have BSR := BS.out.next HB2.out
            have p0 := BSR.cell 0
            have p1 := BSR.cell 1
            have p2 := BSR.cell 2
            simp at p0 p1 p2
            obtain ⟨g, o, rfl, _, hbz, c0, _⟩ := (HR.out.next HB2.out).at_ hr
            generalize Sh.frK r.s n = x at *
            generalize Sh.frE r.s n = y at *
            generalize r.s = z at *
            clear hc hb2 BSR hr
            go_wp2_with fail
            refine (hf _).mono ?_
            rintro e w' ⟨rfl, rfl⟩
            clear hf
            go_wp2
            go_ret2
            exact ⟨rfl, below_step HBU.out (Nat.le_of_lt zU) HB2.out⟩
  · have hk2 : (chk s R f != 0) = true := by simpa using hk
    obtain ⟨e1, e2⟩ := cap_no (s := s) (R := R) (f := f) (b := b) (n := n) (fun h => hk h.1)
    rw [e1, e2]
    clear hk e1 e2
    generalize chk s R f = K at *
    go_enter Try.func16, Try.ntmps16
    go_wp2_with fail
    rw [← HU.out]
    refine hc.mono ?_
    rintro e w2 ⟨rfl, hb2⟩
    have HB2 := Lib.hid hb2
    clear hc hb2
    go_wp2
    go_ret2
    exact ⟨rfl, below_step HBU.out (Nat.le_of_lt zU) HB2.out⟩
end Go.Proofs.Ytaeaneakpkkcnaa
