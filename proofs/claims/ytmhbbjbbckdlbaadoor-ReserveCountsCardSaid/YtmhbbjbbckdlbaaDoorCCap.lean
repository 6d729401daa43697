/-
  Complete and Cap of package config.
-/
import Derived.Test.YtmhbbjbbckdlbaaDoorCChk
namespace Go.Proofs.YtmhbbjbbckdlbaaDoor
open Go.RowKit
set_option maxRecDepth 100000
set_option linter.unusedVariables false

theorem chk_last {s : ByteArray} {R : List Rl} {f : Int} (h : chk s R f = 0) : 0 < R.length ∧ lastS R ≤ 4607182418800017408 := by
  obtain ⟨_, h1, _, h2, _⟩ := chk_ok h
  exact ⟨h1, lastS_ok h1 h2⟩

set_option maxHeartbeats 4000000 in
theorem complete_any (s : ByteArray) (A : Option Addr) (c : Nat) (R : List Rl) (f : Int) (w : World) (hR : RArr w (Lt w.heap.size) A c R) (hW : WfR R) :
    Calls Tryd.prog 29 #[.agg #[.string s, .slice A R.length c, .int .i64 f]] w fun e w' => e = .returned (.bool (cplB s R f)) ∧ Below w.heap.size w w' := by
  obtain ⟨U, hU⟩ : ∃ U, U = w.alloc (.cells #[.string s, .slice A R.length c, .int .i64 f] 27) := ⟨_, rfl⟩
  have BS := Lib.hid (show Blk U w.heap.size 27 #[.string s, .slice A R.length c, .int .i64 f] by rw [hU]; exact Blk.new _ _ _)
  have HBU : Hid (Below w.heap.size w U) := by rw [hU]; exact Lib.hid ((Below.refl _ _).alloc (Nat.le_refl _) _)
  have HU := Lib.hid hU
  have HR := Lib.hid (hR.next HBU.out)
  have zU : w.heap.size < U.heap.size := BS.out.lt
  have hc := check_any s A c R f U HR.out hW
  have hl := fun (h : chk s R f = 0) W (hw : RArr W (Lt W.heap.size) A c R) => uncapped_any A c R W hw (chk_last h).1 (chk_last h).2
  have e : cplB s R f = (decide (chk s R f = 0) && decide (lastS R = 0)) := rfl
  rw [e]
  clear hR hU e
  generalize decide (lastS R = 0) = d at *
  by_cases hk : chk s R f = 0
  · replace hl := hl hk
    rw [hk] at hc
    rw [decide_eq_true hk, Bool.true_and]
    clear hk
    go_enter Tryd.func29, Tryd.ntmps29
    go_wp2_with fail
    rw [← HU.out]
    refine hc.mono ?_
    rintro e w2 ⟨rfl, hb2⟩
    have HB2 := Lib.hid hb2
    have BSR := BS.out.next HB2.out
    have p0 := BSR.cell 0
    have p1 := BSR.cell 1
    have p2 := BSR.cell 2
    simp at p0 p1 p2
    clear hc hb2 BSR
    replace hl := hl _ (HR.out.next HB2.out)
    go_wp2_with fail
    refine hl.mono ?_
    rintro e w' ⟨rfl, rfl⟩
    clear hl
    go_wp2
    go_ret
    exact ⟨rfl, below_step HBU.out (Nat.le_of_lt zU) HB2.out⟩
  · have hk2 : (chk s R f == 0) = false := by simpa using hk
    rw [decide_eq_false hk, Bool.false_and]
    clear hk hl
    generalize chk s R f = K at *
    go_enter Tryd.func29, Tryd.ntmps29
    go_wp2_with fail
    rw [← HU.out]
    refine hc.mono ?_
    rintro e w2 ⟨rfl, hb2⟩
    have HB2 := Lib.hid hb2
    clear hc hb2
    go_wp2
    go_ret
    exact ⟨rfl, below_step HBU.out (Nat.le_of_lt zU) HB2.out⟩

theorem cap_no {s : ByteArray} {R : List Rl} {f b n : Int} (h : ¬ (chk s R f = 0 ∧ 0 ≤ b ∧ b < R.length)) : capK s R f b n = 0 ∧ capE s R f b n = 1 := by
  unfold capK capE
  rw [if_neg h, if_neg h]
  exact ⟨rfl, rfl⟩
theorem cap_yes {s : ByteArray} {R : List Rl} {f n : Int} {k : Nat} {r : Rl} (h : chk s R f = 0) (hr : R[k]? = some r) : capK s R f k n = Sh.frK r.s n ∧ capE s R f k n = Sh.frE r.s n := by
  have hk := gt_lt hr
  unfold capK capE
  rw [if_pos ⟨h, by omega, by omega⟩, if_pos ⟨h, by omega, by omega⟩, Int.toNat_natCast, hr]
  exact ⟨rfl, rfl⟩

end Go.Proofs.YtmhbbjbbckdlbaaDoor
