/-
  checkRule, Check, Complete, Cap of package config.
-/
import Derived.Test.YtnoeefbipdpeaaaCRul
import Derived.Test.YtnoeefbipdpeaaaCNam
import Derived.BigQuiet
import Derived.Deep.QuietTactic
namespace Go.Proofs.Ytnoeefbipdpeaaa
open Go.RowKit
set_option maxRecDepth 100000
set_option linter.unusedVariables false

theorem ruleE_share {n b : Nat} {r : Rl} (h : Sh.okF r.s = false) : ruleE n b r = 6 := by unfold ruleE; rw [if_pos h]
theorem ruleE_lim {n b : Nat} {r : Rl} (h : Sh.okF r.s = true) (h2 : limBad n b r) : ruleE n b r = 9 := by unfold ruleE; rw [if_neg (by rw [h]; simp), if_pos h2]
theorem ruleE_tgt {n b : Nat} {r : Rl} (h : Sh.okF r.s = true) (h2 : ¬ limBad n b r) (h3 : ¬ tgtOk n b r) : ruleE n b r = 10 := by unfold ruleE; rw [if_neg (by rw [h]; simp), if_neg h2, if_neg h3]
theorem ruleE_yes {n b : Nat} {r : Rl} (h : Sh.okF r.s = true) (h2 : ¬ limBad n b r) (h3 : tgtOk n b r) : ruleE n b r = 0 := by unfold ruleE; rw [if_neg (by rw [h]; simp), if_neg h2, if_pos h3]

theorem below_step {B : Nat} {w w1 w2 : World} (h : Below B w w1) (hB : B ≤ w1.heap.size) (h2 : Below w1.heap.size w1 w2) : Below B w w2 := h.trans (h2.mono hB)
theorem chk_name {s : ByteArray} {R : List Rl} {f : Int} (h : nameB s = false) : chk s R f = 7 := by unfold chk; rw [if_pos h]
theorem chk_len {s : ByteArray} {R : List Rl} {f : Int} (h : nameB s = true) (h2 : R.length < 1 ∨ 4 < R.length) : chk s R f = 8 := by unfold chk; rw [if_neg (by rw [h]; simp), if_pos h2]
theorem chk_rule {s : ByteArray} {R : List Rl} {f : Int} {t : Nat} {r : Rl} (h : nameB s = true) (h2 : 1 ≤ R.length) (h3 : R.length ≤ 4) (hr : R[t]? = some r) (h4 : ∀ (j : Nat) (x : Rl), j < t → R[j]? = some x → ruleE R.length j x = 0) (h5 : ruleE R.length t r ≠ 0) :
    chk s R f = ruleE R.length t r := by
  have e := rulE_at R.length R 0 t r hr (fun j x hj hx => by rw [Nat.zero_add]; exact h4 j x hj hx) (by rw [Nat.zero_add]; exact h5)
  rw [Nat.zero_add] at e
  unfold chk
  rw [if_neg (by rw [h]; simp), if_neg (by omega), e, if_pos h5]
theorem chk_all {s : ByteArray} {R : List Rl} {f : Int} (h : nameB s = true) (h2 : 1 ≤ R.length) (h3 : R.length ≤ 4) (h4 : ∀ (j : Nat) (x : Rl), R[j]? = some x → ruleE R.length j x = 0) :
    chk s R f = if allB R = false then 10 else if fullB (lastS R) f = false then 9 else 0 := by
  have e := rulE_zero R.length R 0 (fun j x hx => by rw [Nat.zero_add]; exact h4 j x hx)
  unfold chk
  rw [if_neg (by rw [h]; simp), if_neg (by omega), e, if_neg (by simp)]
theorem okF_le {x : Nat} (h : Sh.okF x = true) : x ≤ 4607182418800017408 := of_decide_eq_true h
theorem lastS_ok {R : List Rl} (h2 : 1 ≤ R.length) (h4 : ∀ (j : Nat) (x : Rl), R[j]? = some x → ruleE R.length j x = 0) : lastS R ≤ 4607182418800017408 := by
  obtain ⟨r, hr⟩ := gt_of (l := R) (j := R.length - 1) (by omega)
  rw [lastS_is hr]
  exact okF_le (ruleE_ok (h4 _ r hr)).1

end Go.Proofs.Ytnoeefbipdpeaaa
