/-
  Plain mathematics of configurations: names, rules, what Check says of them. Nothing here speaks of the program.
-/
import Derived.Test.YtmhbbjbbckdlbaaDoorMShare
import Derived.Test.YtmhbbjbbckdlbaaDoorMBase
namespace Go.Proofs.YtmhbbjbbckdlbaaDoor
open Go.RowKit
set_option maxRecDepth 100000
set_option linter.unusedVariables false

/-- A rule: the word of its share, limit, batch, target. -/
structure Rl where
  s : Nat
  l : Int
  b : Int
  t : Int

theorem gt_lt {α : Type} {l : List α} {j : Nat} {x : α} (h : l[j]? = some x) : j < l.length := (List.getElem?_eq_some_iff.1 h).1
theorem gt_of {α : Type} {l : List α} {j : Nat} (h : j < l.length) : ∃ x, l[j]? = some x := ⟨l[j], List.getElem?_eq_getElem h⟩

/-- Letters, digits and -. -/
def letB (c : Nat) : Bool := decide (97 ≤ c) && decide (c ≤ 122)
def digB (c : Nat) : Bool := decide (48 ≤ c) && decide (c ≤ 57)
def chrB (c : Nat) : Bool := letB c || digB c || decide (c = 45)
def byteN (s : ByteArray) (i : Nat) : Nat := if h : i < s.size then s[i].toNat else 0
theorem byteN_is {s : ByteArray} {i : Nat} (h : i < s.size) : s[i].toNat = byteN s i := by unfold byteN; rw [dif_pos h]
def nameB (s : ByteArray) : Bool := decide (1 ≤ s.size) && decide (s.size ≤ 16) && letB (byteN s 0) && (List.range s.size).all fun i => chrB (byteN s i)
theorem nameB_iff (s : ByteArray) : nameB s = true ↔ 1 ≤ s.size ∧ s.size ≤ 16 ∧ letB (byteN s 0) = true ∧ ∀ i, i < s.size → chrB (byteN s i) = true := by
  unfold nameB
  simp only [Bool.and_eq_true, decide_eq_true_eq, List.all_eq_true, List.mem_range, and_assoc]
theorem nameB_no {s : ByteArray} (h : ¬ (1 ≤ s.size ∧ s.size ≤ 16 ∧ letB (byteN s 0) = true ∧ ∀ i, i < s.size → chrB (byteN s i) = true)) : nameB s = false := by
  rcases e : nameB s with _ | _
  · rfl
  · exact absurd ((nameB_iff s).1 e) h

/-- The first error of rule b of n. -/
def limBad (n b : Nat) (r : Rl) : Prop := r.l < 0 ∨ 64 < r.l ∨ r.b < 0 ∨ 64 < r.b ∨ (b + 1 = n ∧ r.l ≠ 0)
def tgtOk (n b : Nat) (r : Rl) : Prop := if b + 1 = n then r.t = b else (b : Int) < r.t ∧ r.t < n
instance (n b : Nat) (r : Rl) : Decidable (limBad n b r) := by unfold limBad; exact inferInstance
instance (n b : Nat) (r : Rl) : Decidable (tgtOk n b r) := by unfold tgtOk; exact inferInstance
def ruleE (n b : Nat) (r : Rl) : Int := if Sh.okF r.s = false then 6 else if limBad n b r then 9 else if tgtOk n b r then 0 else 10
def rulE (n : Nat) : Nat → List Rl → Int
  | _, [] => 0
  | b, r :: R => if ruleE n b r = 0 then rulE n (b + 1) R else ruleE n b r
theorem rulE_zero (n : Nat) : ∀ (R : List Rl) (b : Nat), (∀ (j : Nat) (r : Rl), R[j]? = some r → ruleE n (b + j) r = 0) → rulE n b R = 0
  | [], _, _ => rfl
  | r :: R, b, h => by
    unfold rulE
    rw [if_pos (show ruleE n b r = 0 from h 0 r rfl)]
    exact rulE_zero n R (b + 1) fun j x hx => by
      have := h (j + 1) x (by simpa using hx)
      rwa [show b + (j + 1) = b + 1 + j by omega] at this
theorem rulE_at (n : Nat) : ∀ (R : List Rl) (b t : Nat) (r : Rl), R[t]? = some r → (∀ (j : Nat) (x : Rl), j < t → R[j]? = some x → ruleE n (b + j) x = 0) → ruleE n (b + t) r ≠ 0 → rulE n b R = ruleE n (b + t) r
  | [], _, _, _, h, _, _ => by simp at h
  | x :: R, b, 0, r, h, _, h2 => by
    simp at h
    subst h
    unfold rulE
    rw [if_neg (show ¬ ruleE n b x = 0 from h2)]
    rfl
  | x :: R, b, t + 1, r, h, h1, h2 => by
    unfold rulE
    rw [if_pos (show ruleE n b x = 0 from h1 0 x (by omega) rfl)]
    have e : b + (t + 1) = b + 1 + t := by omega
    rw [e] at h2 ⊢
    exact rulE_at n R (b + 1) t r (by simpa using h) (fun j y hj hy => by
      have := h1 (j + 1) y (by omega) (by simpa using hy)
      rwa [show b + (j + 1) = b + 1 + j by omega] at this) h2
theorem rulE_all {n : Nat} : ∀ {R : List Rl} {b : Nat}, rulE n b R = 0 → ∀ (j : Nat) (r : Rl), R[j]? = some r → ruleE n (b + j) r = 0
  | [], _, _, _, _, h => by simp at h
  | x :: R, b, h, 0, r, hr => by
    simp at hr
    subst hr
    unfold rulE at h
    split at h
    · assumption
    · exact h
  | x :: R, b, h, j + 1, r, hr => by
    unfold rulE at h
    split at h
    · have := rulE_all h j r (by simpa using hr)
      rwa [show b + 1 + j = b + (j + 1) by omega] at this
    · rename_i h2
      exact absurd h h2
theorem ruleE_ok {n b : Nat} {r : Rl} (h : ruleE n b r = 0) : Sh.okF r.s = true ∧ ¬ limBad n b r ∧ tgtOk n b r := by
  unfold ruleE at h
  split at h
  · cases h
  · split at h
    · cases h
    · split at h
      · exact ⟨by simpa using ‹¬ Sh.okF r.s = false›, by assumption, by assumption⟩
      · cases h

/-- Rule b is the target of an earlier one. -/
def aimB (R : List Rl) (b : Nat) : Bool := (R.take b).any fun r => decide (r.t = b)
theorem aimB_iff (R : List Rl) (b : Nat) : aimB R b = true ↔ ∃ (k : Nat) (r : Rl), k < b ∧ R[k]? = some r ∧ r.t = b := by
  unfold aimB
  rw [List.any_eq_true]
  constructor
  · rintro ⟨r, hr, h⟩
    obtain ⟨k, hk⟩ := List.mem_iff_getElem?.1 hr
    rw [List.getElem?_take] at hk
    split at hk
    · exact ⟨k, r, by assumption, hk, of_decide_eq_true h⟩
    · cases hk
  · rintro ⟨k, r, hk, hr, h⟩
    refine ⟨r, List.mem_iff_getElem?.2 ⟨k, ?_⟩, decide_eq_true h⟩
    rw [List.getElem?_take, if_pos hk]
    exact hr
def allB (R : List Rl) : Bool := (List.range R.length).all fun b => b == 0 || aimB R b
theorem allB_iff (R : List Rl) : allB R = true ↔ ∀ b, 1 ≤ b → b < R.length → aimB R b = true := by
  unfold allB
  rw [List.all_eq_true]
  constructor
  · intro h b h1 h2
    have := h b (List.mem_range.2 h2)
    rw [Bool.or_eq_true, beq_iff_eq] at this
    rcases this with h3 | h3
    · omega
    · exact h3
  · intro h b hb
    rw [Bool.or_eq_true, beq_iff_eq]
    rcases Nat.eq_zero_or_pos b with e | e
    · exact .inl e
    · exact .inr (h b e (List.mem_range.1 hb))
/-- The share of the last rule. -/
def lastS (R : List Rl) : Nat := match R[R.length - 1]? with
  | some r => r.s
  | none => 0
theorem lastS_is {R : List Rl} {r : Rl} (h : R[R.length - 1]? = some r) : lastS R = r.s := by unfold lastS; rw [h]
def fullB (x : Nat) (f : Int) : Bool := if x = 0 then decide (1 ≤ f ∧ f ≤ 64) else decide (f = 0)
/-- What Check says. -/
def chk (s : ByteArray) (R : List Rl) (f : Int) : Int :=
  if nameB s = false then 7 else if R.length < 1 ∨ 4 < R.length then 8 else if rulE R.length 0 R ≠ 0 then rulE R.length 0 R else if allB R = false then 10 else if fullB (lastS R) f = false then 9 else 0
/-- What Complete and Cap say. -/
def cplB (s : ByteArray) (R : List Rl) (f : Int) : Bool := decide (chk s R f = 0) && decide (lastS R = 0)
def capK (s : ByteArray) (R : List Rl) (f b n : Int) : Int := if chk s R f = 0 ∧ 0 ≤ b ∧ b < R.length then (match R[b.toNat]? with | some r => Sh.frK r.s n | none => 0) else 0
def capE (s : ByteArray) (R : List Rl) (f b n : Int) : Int := if chk s R f = 0 ∧ 0 ≤ b ∧ b < R.length then (match R[b.toNat]? with | some r => Sh.frE r.s n | none => 1) else 1
/-- What a valid configuration is. -/
theorem chk_ok {s : ByteArray} {R : List Rl} {f : Int} (h : chk s R f = 0) : nameB s = true ∧ 1 ≤ R.length ∧ R.length ≤ 4 ∧ (∀ (j : Nat) (r : Rl), R[j]? = some r → ruleE R.length j r = 0) ∧ allB R = true ∧ fullB (lastS R) f = true := by
  unfold chk at h
  split at h
  · cases h
  · rename_i h1
    split at h
    · cases h
    · rename_i h2
      split at h
      · rename_i h3
        exact absurd h h3
      · rename_i h3
        split at h
        · cases h
        · rename_i h4
          split at h
          · cases h
          · rename_i h5
            refine ⟨by simpa using h1, by omega, by omega, fun j r hr => ?_, by simpa using h4, by simpa using h5⟩
            have := rulE_all (by simpa using h3) j r hr
            rwa [Nat.zero_add] at this
theorem chk_mk {s : ByteArray} {R : List Rl} {f : Int} (h1 : nameB s = true) (h2 : 1 ≤ R.length) (h3 : R.length ≤ 4) (h4 : ∀ (j : Nat) (r : Rl), R[j]? = some r → ruleE R.length j r = 0) (h5 : allB R = true) (h6 : fullB (lastS R) f = true) : chk s R f = 0 := by
  unfold chk
  rw [if_neg (by rw [h1]; simp), if_neg (by omega), rulE_zero R.length R 0 (fun j r hr => by rw [Nat.zero_add]; exact h4 j r hr), if_neg (by simp), if_neg (by rw [h5]; simp), if_neg (by rw [h6]; simp)]

/-- Each share is a word. -/
def WfR (R : List Rl) : Prop := ∀ (j : Nat) (r : Rl), R[j]? = some r → r.s < 18446744073709551616
end Go.Proofs.YtmhbbjbbckdlbaaDoor
