/-
  The presets are valid; the configurations that mk.Config makes by itself are valid.
-/
import Derived.Test.YtmhbbjbbckdlbaaDoorCGet
namespace Go.Proofs.YtmhbbjbbckdlbaaDoor
open Go.RowKit
set_option maxRecDepth 100000
set_option linter.unusedVariables false

theorem okF_mk {x : Nat} (h : x ≤ 4607182418800017408) : Sh.okF x = true := decide_eq_true h
theorem rule_mk {n b x : Nat} {l q t : Int} (h : x ≤ 4607182418800017408) (l0 : 0 ≤ l) (l1 : l ≤ 64) (q0 : 0 ≤ q) (q1 : q ≤ 64) (hl : b + 1 = n → l = 0) (ht : if b + 1 = n then t = b else (b : Int) < t ∧ t < n) : ruleE n b ⟨x, l, q, t⟩ = 0 := by
  unfold ruleE
  rw [if_neg (by rw [okF_mk h]; simp), if_neg (by unfold limBad; rintro (h | h | h | h | h) <;> simp at h <;> omega), if_pos (show tgtOk n b ⟨x, l, q, t⟩ from ht)]
theorem pre_full {i : Nat} {f : Int} (i6 : i < 6) (x : Nat) (x0 : 0 < x) (h : (0 < preF i ∧ 1 ≤ f ∧ f ≤ 64) ∨ (¬ 0 < preF i ∧ f = preF i)) : fullB (lastS (preR x i)) f = true := by
  rcases (by omega : i = 0 ∨ i = 1 ∨ i = 2 ∨ i = 3 ∨ i = 4 ∨ i = 5) with rfl | rfl | rfl | rfl | rfl | rfl
  all_goals (
    have hne : x ≠ 0 := by omega
    simp [preF] at h
    simp [fullB, lastS, preR, hne]
    omega)
theorem pre_name : ∀ i : Fin 6, nameB (preN i) = true := by decide
theorem pre_all (x : Nat) {i : Nat} (i6 : i < 6) : allB (preR x i) = true := by
  rcases (by omega : i = 0 ∨ i = 1 ∨ i = 2 ∨ i = 3 ∨ i = 4 ∨ i = 5) with rfl | rfl | rfl | rfl | rfl | rfl <;> rfl
theorem pre_rules {x i : Nat} (i6 : i < 6) (x1 : x ≤ 4607182418800017408) : ∀ (j : Nat) (r : Rl), (preR x i)[j]? = some r → ruleE (preR x i).length j r = 0 := by
  intro j r hr
  have hl := gt_lt hr
  rcases (by omega : i = 0 ∨ i = 1 ∨ i = 2 ∨ i = 3 ∨ i = 4 ∨ i = 5) with rfl | rfl | rfl | rfl | rfl | rfl
  all_goals simp only [preR, List.length_cons, List.length_nil] at hl hr ⊢
  · obtain rfl : j = 0 := by omega
    injection hr with hr; subst hr
    exact rule_mk (by omega) (by decide) (by decide) (by decide) (by decide) (by omega) (by simp)
  · rcases (by omega : j = 0 ∨ j = 1) with rfl | rfl
    · injection hr with hr; subst hr
      exact rule_mk (by omega) (by decide) (by decide) (by decide) (by decide) (by omega) (by simp)
    · injection hr with hr; subst hr
      exact rule_mk (by omega) (by decide) (by decide) (by decide) (by decide) (by omega) (by simp)
  · rcases (by omega : j = 0 ∨ j = 1) with rfl | rfl
    · injection hr with hr; subst hr
      exact rule_mk (by omega) (by decide) (by decide) (by decide) (by decide) (by omega) (by simp)
    · injection hr with hr; subst hr
      exact rule_mk (by omega) (by decide) (by decide) (by decide) (by decide) (by omega) (by simp)
  · obtain rfl : j = 0 := by omega
    injection hr with hr; subst hr
    exact rule_mk (by omega) (by decide) (by decide) (by decide) (by decide) (by omega) (by simp)
  · rcases (by omega : j = 0 ∨ j = 1) with rfl | rfl
    · injection hr with hr; subst hr
      exact rule_mk (by omega) (by decide) (by decide) (by decide) (by decide) (by omega) (by simp)
    · injection hr with hr; subst hr
      exact rule_mk (by omega) (by decide) (by decide) (by decide) (by decide) (by omega) (by simp)
  · rcases (by omega : j = 0 ∨ j = 1 ∨ j = 2) with rfl | rfl | rfl
    · injection hr with hr; subst hr
      exact rule_mk (by omega) (by decide) (by decide) (by decide) (by decide) (by omega) (by simp)
    · injection hr with hr; subst hr
      exact rule_mk (by omega) (by decide) (by decide) (by decide) (by decide) (by omega) (by simp)
    · injection hr with hr; subst hr
      exact rule_mk (by omega) (by decide) (by decide) (by decide) (by decide) (by omega) (by simp)
theorem pre_len (x : Nat) {i : Nat} (i6 : i < 6) : 1 ≤ (preR x i).length ∧ (preR x i).length ≤ 4 := by
  rcases (by omega : i = 0 ∨ i = 1 ∨ i = 2 ∨ i = 3 ∨ i = 4 ∨ i = 5) with rfl | rfl | rfl | rfl | rfl | rfl <;> simp [preR]
theorem pre_size : ∀ i : Fin 6, (preN i).size ≤ 16 := by decide
theorem pre_ok {x i : Nat} {f : Int} (i6 : i < 6) (x0 : 0 < x) (x1 : x ≤ 4607182418800017408) (h : (0 < preF i ∧ 1 ≤ f ∧ f ≤ 64) ∨ (¬ 0 < preF i ∧ f = preF i)) : chk (preN i) (preR x i) f = 0 :=
  chk_mk (pre_name ⟨i, i6⟩) (pre_len x i6).1 (pre_len x i6).2 (pre_rules i6 x1) (pre_all x i6) (pre_full i6 x x0 h)
/-- Rules that fit: their shares are words. -/
theorem wf_of_rules {R : List Rl} {n : Nat} (h : ∀ (j : Nat) (r : Rl), R[j]? = some r → ruleE n j r = 0) : WfR R := fun j r hr => by
  have := (ruleE_ok (h j r hr)).1
  have := of_decide_eq_true this
  omega

/-- What holds of the rules that mk.Config has appended behind b rounds of n. -/
def OwnR (n b : Nat) (R : List Rl) : Prop := R.length = b ∧ ∀ (j : Nat) (r : Rl), R[j]? = some r → ruleE n j r = 0 ∧ (j + 1 < n → r.t = ((j + 1 : Nat) : Int))
theorem OwnR.nil (n : Nat) : OwnR n 0 [] := ⟨rfl, fun j r h => by simp at h⟩
theorem OwnR.snoc {n b : Nat} {R : List Rl} (h : OwnR n b R) {x : Nat} {l q : Int} (hb : b < n) (hx : x ≤ 4607182418800017408) (l0 : 0 ≤ l) (l1 : l ≤ 64) (q0 : 0 ≤ q) (q1 : q ≤ 64) (hl : b + 1 = n → l = 0) {t : Int} (ht : t = if b + 1 = n then (b : Int) else ((b + 1 : Nat) : Int)) : OwnR n (b + 1) (R ++ [⟨x, l, q, t⟩]) := by
  obtain ⟨h1, h2⟩ := h
  refine ⟨by simp [h1], fun j r hr => ?_⟩
  rcases Nat.lt_or_ge j R.length with e | e
  · rw [List.getElem?_append_left e] at hr
    exact h2 j r hr
  · rw [List.getElem?_append_right e] at hr
    have e2 : j = R.length := by
      have := gt_lt hr
      simp at this
      omega
    subst e2
    simp at hr
    subst hr
    rw [h1]
    refine ⟨rule_mk hx l0 l1 q0 q1 hl ?_, fun h3 => ?_⟩
    · split
      · rename_i h3; rw [ht, if_pos h3]
      · rename_i h3; rw [ht, if_neg h3]; omega
    · show t = _
      rw [ht, if_neg (by omega)]
def ownN : ByteArray := { data := #[111, 119, 110] }
theorem own_name : nameB ownN = true := by decide
theorem own_ok {n : Nat} {R : List Rl} {f : Int} (h : OwnR n n R) (h1 : 1 ≤ n) (h4 : n ≤ 4) (hf : (lastS R = 0 ∧ 1 ≤ f ∧ f ≤ 64) ∨ (lastS R ≠ 0 ∧ f = 0)) : chk ownN R f = 0 ∧ WfR R := by
  obtain ⟨e, h2⟩ := h
  have h3 : ∀ (j : Nat) (r : Rl), R[j]? = some r → ruleE R.length j r = 0 := fun j r hr => by rw [e]; exact (h2 j r hr).1
  refine ⟨chk_mk own_name (by omega) (by omega) h3 ((allB_iff R).2 fun b b1 b2 => ?_) ?_, wf_of_rules h3⟩
  · obtain ⟨r, hr⟩ := gt_of (l := R) (j := b - 1) (by omega)
    refine (aimB_iff R b).2 ⟨b - 1, r, by omega, hr, ?_⟩
    rw [(h2 _ r hr).2 (by omega)]
    omega
  · unfold fullB
    rcases hf with ⟨a, b, c⟩ | ⟨a, b⟩
    · rw [if_pos a]; exact decide_eq_true ⟨b, c⟩
    · rw [if_neg a]; exact decide_eq_true b
theorem lastS_snoc (R : List Rl) (r : Rl) : lastS (R ++ [r]) = r.s := by
  refine lastS_is ?_
  simp
end Go.Proofs.YtmhbbjbbckdlbaaDoor
