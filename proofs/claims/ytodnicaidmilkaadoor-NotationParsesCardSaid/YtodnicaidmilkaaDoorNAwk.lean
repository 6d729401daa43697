/-
  The laws' sanity check: the example of chapter 13. Two equal configurations are the same.
-/
import Derived.Test.YtodnicaidmilkaaDoorNDcf
import Derived.Test.YtodnicaidmilkaaDoorNPrd
namespace Go.Proofs.YtodnicaidmilkaaDoor
open Go.RowKit
set_option maxRecDepth 100000
set_option linter.unusedVariables false

def exN : List Nat := [120, 120, 49, 48, 48]
def exR : List Pr := [⟨25, 0, 1, 1⟩, ⟨25, 0, 1, 2⟩, ⟨0, 0, 0, 2⟩]
def exL : List Nat := [120, 120, 49, 48, 48, 32, 102, 117, 108, 108, 32, 56, 58, 32, 50, 53, 37, 47, 48, 47, 49, 62, 49, 44, 32, 50, 53, 37, 47, 48, 47, 49, 62, 50, 44, 32, 97, 108, 108, 47, 48, 47, 48, 62, 50]
theorem ex_text : textL exN 8 exR = exL := by
  unfold textL exN exR
  simp only [rlsL, rulL, shL, decL_small (show 8 < 10 by omega), decL_small (show 0 < 10 by omega), decL_small (show 1 < 10 by omega), decL_small (show 2 < 10 by omega), decL_big (show ¬ 25 < 10 by omega)]
  decide
theorem ex_textP : textP exL = some (exN, 8, exR) := by
  rw [← ex_text]
  exact textP_mk ⟨by decide, by decide, by decide⟩ (by decide) (by decide) (by unfold PrOk; decide)
theorem ex_chk : chk (tx exN) (mkR exR) 8 = 0 := by decide +kernel
theorem ex_prs : prsE exL = 0 := by
  unfold prsE
  rw [if_neg (by decide), ex_textP]
  exact ex_chk
theorem ex_lit : ({ data := #[120, 120, 49, 48, 48, 32, 102, 117, 108, 108, 32, 56, 58, 32, 50, 53, 37, 47, 48, 47, 49, 62, 49, 44, 32, 50, 53, 37, 47, 48, 47, 49, 62, 50, 44, 32, 97, 108, 108, 47, 48, 47, 48, 62, 50] } : ByteArray) = tx exL := by decide
theorem ex_byt : Byt exL := by unfold Byt; decide
theorem RArr.own {w : World} {A : Option Addr} {c : Nat} {R : List Rl} {lo : Nat} (h : RArr w (Rng lo w.heap.size) A c R) : RArr w (Lt w.heap.size) A c R := h.mono fun b hb => hb.2
set_option maxHeartbeats 2000000 in
theorem awake_any (w : World) (hT : P10 w) : Calls Tryd.prog 6 #[] w fun e w' => e = .returned (.bool true) ∧ Below w.heap.size w w' := by
  have h1 := parse_any exL w ex_byt (by decide)
  have lE := ex_lit
  have hlen : (mkR exR).length = 3 := rfl
  have HT := Lib.hid hT
  clear hT
  go_enter Tryd.func6, Tryd.ntmps6
  go_wp2_with fail
  refine h1.mono ?_
  rintro e W1 ⟨hp, hb1⟩
  rcases hp with ⟨hne, _⟩ | ⟨_, nm, f, R, A, c, hx, rfl, hra⟩
  · exact absurd ex_prs hne
  · rw [ex_textP] at hx
    injection hx with hx
    injection hx with e1 hx
    injection hx with e2 e3
    subst e1 e2 e3
    rw [hlen]
    obtain ⟨W2, hW2⟩ : ∃ W, W = W1.alloc (.cells #[.string (tx exN), .slice A 3 c, .int .i64 8] 24) := ⟨_, rfl⟩
    have hb2 : Below W1.heap.size W1 W2 := by rw [hW2]; exact (Below.refl _ _).alloc (Nat.le_refl _) _
    have hpr := print_any (tx exN) A c (mkR exR) 8 W2 (hra.lt.next hb2) (wf_mkR ex_textP) ((HT.out.next hb1).next hb2)
    rw [hlen] at hpr
    obtain ⟨p1, p2⟩ := parse_back ex_prs ex_textP
    have p1 : prtE (tx exN) (mkR exR) 8 = 0 := p1
    have p2 : prtL (tx exN) (mkR exR) 8 = exL := p2
    have BC := Lib.hid (show Blk W2 W1.heap.size 24 #[.string (tx exN), .slice A 3 c, .int .i64 8] by rw [hW2]; exact Blk.new _ _ _)
    have HB := Lib.hid (below_step hb1 hb1.size hb2)
    have HPR := Lib.hid hpr
    have P1 := Lib.hid p1
    have P2 := Lib.hid p2
    have HW2 := Lib.hid hW2
    clear h1 hb1 hb2 hra hpr p1 p2 hW2
    go_wp2_with fail
    rw [← HW2.out]
    go_wp2_with fail
    refine HPR.out.mono ?_
    rintro e W3 ⟨he, hb3⟩
    rw [P1.out, P2.out] at he
    subst he
    have BC3 := BC.out.next hb3
    have q1 := BC3.cell 1
    simp at q1
    have HB3 := Lib.hid (below_step HB.out HB.out.size hb3)
    clear hb3 BC3
    go_wp2_with fail
    go_ret
    exact ⟨rfl, HB3.out⟩

/-- Equal configurations, wherever their rules lie, are the same. -/
def SameI (n : Nat) (w : World) (i : Value) (wr : World) : Prop := ∃ k : Nat, k ≤ n ∧ i = .int .i64 k ∧ Below w.heap.size w wr
set_option maxHeartbeats 8000000 in
theorem same_yes (s : ByteArray) (A A' : Option Addr) (c c' : Nat) (R : List Rl) (f : Int) (w : World) (hR : RArr w (Lt w.heap.size) A c R) (hR' : RArr w (Lt w.heap.size) A' c' R) :
    Calls Tryd.prog 14 #[.agg #[.string s, .slice A R.length c, .int .i64 f], .agg #[.string s, .slice A' R.length c', .int .i64 f]] w fun e w' => e = .returned (.bool true) ∧ Below w.heap.size w w' := by
  obtain ⟨U, hU⟩ : ∃ U, U = (w.alloc (.cells #[.string s, .slice A R.length c, .int .i64 f] 24)).alloc (.cells #[.string s, .slice A' R.length c', .int .i64 f] 24) := ⟨_, rfl⟩
  have hbu : Below w.heap.size w U := by rw [hU]; exact ((Below.refl _ _).alloc (Nat.le_refl _) _).alloc (by simp) _
  have BA := Lib.hid (show Blk U w.heap.size 24 #[.string s, .slice A R.length c, .int .i64 f] by rw [hU]; exact (Blk.new _ _ _).alloc _)
  have BB := Lib.hid (show Blk U (w.heap.size + 1) 24 #[.string s, .slice A' R.length c', .int .i64 f] by rw [hU]; exact Blk.newAt _ _ _ _ (by simp))
  have HR := Lib.hid (hR.next hbu)
  have HR' := Lib.hid (hR'.next hbu)
  have HBU := Lib.hid hbu
  have HU := Lib.hid hU
  have hm := hR.2.1
  have hm' := hR.1
  have hn := hR'.2.1
  have hn' := hR'.1
  simp only [maxLen] at hm hn
  have hst := stF
  have p0 := BA.out.cell 0
  have p1 := BA.out.cell 1
  have p2 := BA.out.cell 2
  have q0 := BB.out.cell 0
  have q1 := BB.out.cell 1
  have q2 := BB.out.cell 2
  simp at p0 p1 p2 q0 q1 q2
  clear hR hR' hbu hU
  go_enter Tryd.func14, Tryd.ntmps14
  go_wp2_with fail
  rw [← HU.out]
  go_loopw [32] (fun i wr => ∃ k : Nat, k ≤ R.length ∧ i = .int .i64 k ∧ Below U.heap.size U wr) (fun i _ => R.length - (intOf i).toNat)
  case atStart => exact ⟨0, Nat.zero_le _, rfl, Below.refl _ _⟩
  case round =>
    obtain ⟨k, hk, rfl, hb⟩ := hrel
    have HB := Lib.hid hb
    clear hb p0 p1 p2 q0 q1 q2
    by_cases hlt : k < R.length
    · have hlt2 : 0 ≤ (k : Int) ∧ (k : Int) < R.length := by omega
      obtain ⟨r, hr⟩ := gt_of hlt
      obtain ⟨g, o, rfl, _, hgz, k0, k1, k2, k3⟩ := (HR.out.next HB.out).at_ hr
      obtain ⟨g', o', rfl, _, hgz', j0, j1, j2, j3⟩ := (HR'.out.next HB.out).at_ hr
      have PB := BB.out.next HB.out
      have q1 := PB.cell 1
      simp at q1
      obtain ⟨xs, hxs⟩ : ∃ x, x = r.s := ⟨_, rfl⟩
      obtain ⟨xl, hxl⟩ : ∃ x, x = r.l := ⟨_, rfl⟩
      obtain ⟨xb, hxb⟩ : ∃ x, x = r.b := ⟨_, rfl⟩
      obtain ⟨xt, hxt⟩ : ∃ x, x = r.t := ⟨_, rfl⟩
      rw [← hxs] at k0 j0
      rw [← hxl] at k1 j1
      rw [← hxb] at k2 j2
      rw [← hxt] at k3 j3
      have hbits := Sh.run_bits xs
      have zb : w.heap.size + 1 < wr.heap.size := PB.lt
      clear hxs hxl hxb hxt hr PB
      go_upto_region 7 with fail
      go_quiet (fail)
      go_wp2_with fail
      exact ⟨⟨k + 1, by omega, by go_num, below_drewN ((HB.out.alloc HB.out.size _).alloc (by simp; have := HB.out.size; omega) _) _⟩, by simp [intOf]; omega⟩
    · have hlt2 : ¬ (k : Int) < R.length := by omega
      go_wp2_with fail
      go_ret
      exact ⟨rfl, below_step HBU.out HBU.out.size HB.out⟩
end Go.Proofs.YtodnicaidmilkaaDoor
