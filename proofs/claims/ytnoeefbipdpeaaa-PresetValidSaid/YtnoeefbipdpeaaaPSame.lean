/-
  Two equal configurations are the same.
-/
import Derived.Test.YtnoeefbipdpeaaaNPrt
import Derived.Test.YtnoeefbipdpeaaaCVal
namespace Go.Proofs.Ytnoeefbipdpeaaa
open Go.RowKit
set_option maxRecDepth 100000
set_option linter.unusedVariables false

theorem RArr.own {w : World} {A : Option Addr} {c : Nat} {R : List Rl} {lo : Nat} (h : RArr w (Rng lo w.heap.size) A c R) : RArr w (Lt w.heap.size) A c R := h.mono fun b hb => hb.2
/-- Equal configurations, wherever their rules lie, are the same. -/
def SameI (n : Nat) (w : World) (i : Value) (wr : World) : Prop := ∃ k : Nat, k ≤ n ∧ i = .int .i64 k ∧ Below w.heap.size w wr
set_option maxHeartbeats 8000000 in
theorem same_yes (s : ByteArray) (A A' : Option Addr) (c c' : Nat) (R : List Rl) (f : Int) (w : World) (hR : RArr w (Lt w.heap.size) A c R) (hR' : RArr w (Lt w.heap.size) A' c' R) :
    Calls Try.prog 11 #[.agg #[.string s, .slice A R.length c, .int .i64 f], .agg #[.string s, .slice A' R.length c', .int .i64 f]] w fun e w' => e = .returned (.bool true) ∧ Below w.heap.size w w' := by
  obtain ⟨U, hU⟩ : ∃ U, U = (w.alloc (.cells #[.string s, .slice A R.length c, .int .i64 f] 28)).alloc (.cells #[.string s, .slice A' R.length c', .int .i64 f] 28) := ⟨_, rfl⟩
  have hbu : Below w.heap.size w U := by rw [hU]; exact ((Below.refl _ _).alloc (Nat.le_refl _) _).alloc (by simp) _
  have BA := Lib.hid (show Blk U w.heap.size 28 #[.string s, .slice A R.length c, .int .i64 f] by rw [hU]; exact (Blk.new _ _ _).alloc _)
  have BB := Lib.hid (show Blk U (w.heap.size + 1) 28 #[.string s, .slice A' R.length c', .int .i64 f] by rw [hU]; exact Blk.newAt _ _ _ _ (by simp))
  have HR := Lib.hid (hR.next hbu)
  have HR' := Lib.hid (hR'.next hbu)
  have HBU := Lib.hid hbu
  have HU := Lib.hid hU
  have hm := hR.2.1
  have hm' := hR.1
  have hn := hR'.2.1
  have hn' := hR'.1
  simp only [maxLen] at hm hn
  have hst := stF
  have p0 := BA.out.cell 0
  have p1 := BA.out.cell 1
  have p2 := BA.out.cell 2
  have q0 := BB.out.cell 0
  have q1 := BB.out.cell 1
  have q2 := BB.out.cell 2
  simp at p0 p1 p2 q0 q1 q2
  clear hR hR' hbu hU
  go_enter Try.func11, Try.ntmps11
  go_wp2_with fail
  rw [← HU.out]
  go_loopw [32] (fun i wr => ∃ k : Nat, k ≤ R.length ∧ i = .int .i64 k ∧ Below U.heap.size U wr) (fun i _ => R.length - (intOf i).toNat)
  case atStart => exact ⟨0, Nat.zero_le _, rfl, Below.refl _ _⟩
  case round =>
    obtain ⟨k, hk, rfl, hb⟩ := hrel
    have HB := Lib.hid hb
    clear hb p0 p1 p2 q0 q1 q2
    by_cases hlt : k < R.length
    · have hlt2 : 0 ≤ (k : Int) ∧ (k : Int) < R.length := by omega
      obtain ⟨r, hr⟩ := gt_of hlt
      obtain ⟨g, o, rfl, _, hgz, k0, k1, k2, k3⟩ := (HR.out.next HB.out).at_ hr
      obtain ⟨g', o', rfl, _, hgz', j0, j1, j2, j3⟩ := (HR'.out.next HB.out).at_ hr
      have PB := BB.out.next HB.out
      have q1 := PB.cell 1
      simp at q1
      obtain ⟨xs, hxs⟩ : ∃ x, x = r.s := ⟨_, rfl⟩
      obtain ⟨xl, hxl⟩ : ∃ x, x = r.l := ⟨_, rfl⟩
      obtain ⟨xb, hxb⟩ : ∃ x, x = r.b := ⟨_, rfl⟩
      obtain ⟨xt, hxt⟩ : ∃ x, x = r.t := ⟨_, rfl⟩
      rw [← hxs] at k0 j0
      rw [← hxl] at k1 j1
      rw [← hxb] at k2 j2
      rw [← hxt] at k3 j3
      have hbits := Sh.run_bits xs
      have zb : w.heap.size + 1 < wr.heap.size := PB.lt
      clear hxs hxl hxb hxt hr PB
      go_upto_region 7 with fail
      go_quiet (fail)
      go_wp2_with fail
      exact ⟨⟨k + 1, by omega, by go_num, below_drewN ((HB.out.alloc HB.out.size _).alloc (by simp; have := HB.out.size; omega) _) _⟩, by simp [intOf]; omega⟩
    · have hlt2 : ¬ (k : Int) < R.length := by omega
      go_wp2_with fail
      go_ret
      exact ⟨rfl, below_step HBU.out HBU.out.size HB.out⟩
end Go.Proofs.Ytnoeefbipdpeaaa
