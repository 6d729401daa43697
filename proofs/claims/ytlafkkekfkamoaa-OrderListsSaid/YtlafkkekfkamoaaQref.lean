/-
  Valid of the reference of layer 11: Sound.
-/
import Derived.Test.YtlafkkekfkamoaaQval
import Derived.Deep.RegionHeld3
namespace Go.Proofs.Ytlafkkekfkamoaa
open Go.RowKit
set_option maxRecDepth 100000
set_option linter.unusedVariables false

/-- The increments ahead of the t-th one of belt b. -/
def preQ (Q : List (List IncR)) (b t : Nat) : List IncR := (Q.take b).flatten ++ ((Q[b]?).getD []).take t
theorem preQ_zero (Q : List (List IncR)) (b : Nat) : preQ Q b 0 = (Q.take b).flatten := by simp [preQ]
theorem preQ_next {Q : List (List IncR)} {b t : Nat} {q : List IncR} {i : IncR} (h : Q[b]? = some q) (hi : q[t]? = some i) : preQ Q b (t + 1) = preQ Q b t ++ [i] := by
  simp only [preQ, h, Option.getD_some]
  rw [List.take_add_one, hi, List.append_assoc]
  rfl
theorem preQ_row {Q : List (List IncR)} {b : Nat} {q : List IncR} (h : Q[b]? = some q) : preQ Q b q.length = preQ Q (b + 1) 0 := by
  rw [preQ_zero, List.take_add_one, h]
  simp [preQ, h]
theorem preQ_end (Q : List (List IncR)) : preQ Q Q.length 0 = Q.flatten := by rw [preQ_zero, List.take_length]
theorem preQ_len {Q : List (List IncR)} {b t : Nat} {q : List IncR} (h : Q[b]? = some q) (ht : t ≤ q.length) : (preQ Q b t).length ≤ Q.flatten.length := by
  have e : Q = Q.take b ++ q :: Q.drop (b + 1) := by
    obtain ⟨hb, hq⟩ := List.getElem?_eq_some_iff.1 h
    rw [← hq, List.getElem_cons_drop, List.take_append_drop]
  have e2 : Q.flatten.length = (Q.take b).flatten.length + q.length + (Q.drop (b + 1)).flatten.length := by
    conv => lhs; rw [e]
    simp [List.flatten_append]
    omega
  rw [e2]
  simp [preQ, h]
  omega
theorem preQ_mem {Q : List (List IncR)} {b t : Nat} {i : IncR} (h : i ∈ preQ Q b t) : (∃ b' q', b' < b ∧ Q[b']? = some q' ∧ i ∈ q') ∨ ∃ q j, Q[b]? = some q ∧ j < t ∧ q[j]? = some i := by
  rcases List.mem_append.1 h with h | h
  · obtain ⟨q, hq, hi⟩ := List.mem_flatten.1 h
    obtain ⟨b', hb'⟩ := List.mem_iff_getElem?.1 hq
    rw [List.getElem?_take] at hb'
    split at hb'
    · exact .inl ⟨b', q, ‹_›, hb', hi⟩
    · cases hb'
  · cases hq : Q[b]? with
    | none => rw [hq] at h; simp at h
    | some q =>
      rw [hq] at h
      simp only [Option.getD_some] at h
      obtain ⟨j, hj⟩ := List.mem_iff_getElem?.1 h
      rw [List.getElem?_take] at hj
      split at hj
      · exact .inr ⟨q, j, rfl, ‹_›, hj⟩
      · cases hj

theorem preQ_sub {Q : List (List IncR)} {b t : Nat} {q : List IncR} (h : Q[b]? = some q) : (preQ Q b t).Sublist Q.flatten := by
  have e : Q = Q.take b ++ q :: Q.drop (b + 1) := by
    obtain ⟨hb, hq⟩ := List.getElem?_eq_some_iff.1 h
    rw [← hq, List.getElem_cons_drop, List.take_append_drop]
  have e2 : Q.flatten = (Q.take b).flatten ++ (q ++ (Q.drop (b + 1)).flatten) := by
    conv => lhs; rw [e]
    simp [List.flatten_append]
  rw [e2, preQ, h]
  exact List.Sublist.append (List.Sublist.refl _) ((List.take_sublist _ _).trans (List.sublist_append_left _ _))

/-- What is known of the increments ahead. -/
def GoodP (k n nw : Nat) (F : Nat → Fr) (Q : List (List IncR)) (b t : Nat) : Prop :=
  (∀ b' q', b' < b → Q[b']? = some q' → QueP k n nw F b' q') ∧ (∀ (q : List IncR) (j : Nat) (i : IncR), Q[b]? = some q → j < t → q[j]? = some i → OkB k n nw F b q j i) ∧ ((preQ Q b t).map fun i => i.sq).Nodup
section
variable {k n nw : Nat} {F : Nat → Fr} {Q : List (List IncR)} {b t : Nat} {q : List IncR} {i : IncR}
theorem good_start : GoodP k n nw F Q 0 0 := ⟨fun _ _ h => by omega, fun _ _ _ _ h => by omega, by simp [preQ]⟩
theorem good_next (h : GoodP k n nw F Q b t) (hq : Q[b]? = some q) (hi : q[t]? = some i) (ho : OkB k n nw F b q t i) (hn : i.sq ∉ (preQ Q b t).map fun i => i.sq) : GoodP k n nw F Q b (t + 1) := by
  refine ⟨h.1, fun q' j x hq' hj hx => ?_, ?_⟩
  · rw [hq] at hq'
    injection hq' with hq'
    subst hq'
    rcases (by omega : j < t ∨ j = t) with e | rfl
    · exact h.2.1 q j x hq e hx
    · rw [hi] at hx
      injection hx with hx
      subst hx
      exact ho
  · rw [preQ_next hq hi, List.map_append, List.nodup_append]
    refine ⟨h.2.2, by simp, fun x hx y hy e => ?_⟩
    simp at hy
    subst hy
    subst e
    exact hn hx
theorem good_row (h : GoodP k n nw F Q b q.length) (hq : Q[b]? = some q) : GoodP k n nw F Q (b + 1) 0 := by
  refine ⟨fun b' q' hb hq' => ?_, fun _ _ _ _ h => by omega, ?_⟩
  · rcases (by omega : b' < b ∨ b' = b) with e | rfl
    · exact h.1 b' q' e hq'
    · rw [hq] at hq'
      injection hq' with hq'
      subst hq'
      exact fun j i hi => h.2.1 q j i hq (get_lt hi) hi
  · rw [← preQ_row hq]
    exact h.2.2
theorem good_end (h : GoodP k n nw F Q Q.length 0) (h1 : 1 ≤ Q.length) (h4 : Q.length ≤ 4) : BelP k n nw F Q := ⟨h1, h4, fun b q hq => h.1 b q (get_lt hq) hq⟩
theorem good_mem (h : GoodP k n nw F Q b t) : ∀ i ∈ preQ Q b t, 0 < i.wo ∧ FitI k n nw F i := by
  intro i hi
  rcases preQ_mem hi with ⟨b', q', hb, hq, hm⟩ | ⟨q, j, hq, hj, hi⟩
  · obtain ⟨j, hj⟩ := List.mem_iff_getElem?.1 hm
    have := h.1 b' q' hb hq j i hj
    exact ⟨this.2.1, this.2.2.1⟩
  · have := h.2.1 q j i hq hj hi
    exact ⟨this.2.1, this.2.2.1⟩
theorem good_own (h : GoodP k n nw F Q b t) (hq : Q[b]? = some q) (ht : t ≤ q.length) (hn : n ≤ 64) (htot : Q.flatten.length ≤ 400) : ownS k (preQ Q b t) ≤ 25600 ∧ (preQ Q b t).length ≤ 400 := by
  have h1 := ownS_le _ (good_mem h)
  have h2 := preQ_len hq ht
  have h3 : n * (preQ Q b t).length ≤ 64 * 400 := Nat.mul_le_mul hn (by omega)
  omega
theorem bad_ok (hq : Q[b]? = some q) (hi : q[t]? = some i) (h : ¬ OkB k n nw F b q t i) : ¬ SndP k n nw F Q := fun h2 => h (h2.1.2.2 b q hq t i hi)
theorem bad_dup (hv : FV F n) (hq : Q[b]? = some q) (hi : q[t]? = some i) (h : i.sq ∈ (preQ Q b t).map fun i => i.sq) : ¬ SndP k n nw F Q := fun h2 => by
  have h3 := (preQ_sub (t := t + 1) hq).map fun i : IncR => i.sq
  have h4 := h3.nodup (bel_nodup hv h2.1)
  rw [preQ_next hq hi, List.map_append, List.nodup_append] at h4
  exact h4.2.2 _ h _ (by simp) rfl
end

theorem Blk.next' {w w' : World} {b : Nat} {t : TypeId} {cs : Array Value} (h : Blk w b t cs) (hb : Below w.drew.heap.size w.drew w') : Blk w' b t cs := h.next (show Below w.heap.size w w' from ⟨hb.os, hb.tape, hb.output, hb.size, hb.block⟩)
theorem hM_row {w : World} {B : Nat} {t : TypeId} {v : Value} {n m : Nat} {xs : List Value} (hm : m = n) (h : w.ownsRow B t 1 v n xs) : w.ownsRow B t 1 v m xs := hm ▸ h
/-- The numbers of increments as a row of integers. -/
def seqC (l : List IncR) : List Value := l.map fun i => .int .i64 i.sq
theorem seqC_snoc (l : List IncR) (i : IncR) : seqC (l ++ [i]) = seqC l ++ [.int .i64 i.sq] := by simp [seqC]

end Go.Proofs.Ytlafkkekfkamoaa
