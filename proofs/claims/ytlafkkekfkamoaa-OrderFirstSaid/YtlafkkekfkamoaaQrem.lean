/-
  Remove of package belt, where it goes through; Slight.
-/
import Derived.Test.YtlafkkekfkamoaaQadd
namespace Go.Proofs.Ytlafkkekfkamoaa
open Go.RowKit
set_option maxRecDepth 100000
set_option linter.unusedVariables false

/-- New belts without one increment that has this number, and no error. -/
def RemOf (Q : List (List IncR)) (x : Int) (w : World) (e : Ending) (w' : World) : Prop :=
  ∃ (v : Value) (b k : Nat) (q : List IncR) (i : IncR), e = .returned (.tuple #[v, .int .i64 0]) ∧ Q[b]? = some q ∧ q[k]? = some i ∧ i.sq = x ∧ Rows2 w' w.heap.size v (Q.set b (q.eraseIdx k)) ∧ Below w.heap.size w w'

theorem Rows2.size_lt {w : World} {g n c : Nat} {lo : Nat} {Q : List (List IncR)} (h : Rows2 w lo (.slice (some ⟨g, 0, none⟩) n c) Q) : g < w.heap.size := by
  obtain ⟨V, h1, _⟩ := h
  exact (h1.lt g rfl).2

/-- How many increments the first t belts have. -/
def lenQ (Q : List (List IncR)) : Nat := Q.flatten.length
theorem lenQ_snoc {Q : List (List IncR)} {t : Nat} {q : List IncR} (h : Q[t]? = some q) : lenQ (Q.take (t + 1)) = lenQ (Q.take t) + q.length := by
  unfold lenQ
  rw [List.take_add_one, h, List.flatten_append, List.length_append]
  simp

def SlightOf (Q : List (List IncR)) (w : World) (e : Ending) (w' : World) : Prop := ∃ r, e = .returned (.bool r) ∧ (r = true → Q.length ≤ 8 ∧ lenQ Q ≤ 40) ∧ Below w.heap.size w w'

set_option maxHeartbeats 1000000 in
theorem slight_any (A : Option Addr) (c : Nat) (Q : List (List IncR)) (w : World) (hQ : QArr w (Lt w.heap.size) A c Q) (hqn : ∀ q ∈ Q, q.length ≤ 140737488355328) :
    Calls Try.prog 13 #[.slice A Q.length c] w (SlightOf Q w) := by
  have HQ := Lib.hid hQ
  have HQN := Lib.hid hqn
  have hm := hQ.2.1
  have hm' := hQ.1
  simp only [maxLen] at hm
  clear hQ hqn
  go_enter Try.func13, Try.ntmps13
  go_wp2_with fail
  go_loopw [3, 8] (fun n i wr => ∃ (t : Nat) (z : Int), t ≤ Q.length ∧ n = .int .i64 z ∧ i = .int .i64 t ∧ (t ≤ 8 → z = lenQ (Q.take t) ∧ z ≤ t * 140737488355328) ∧ Below w.heap.size w wr) (fun _ i _ => Q.length - (intOf i).toNat)
  case atStart => exact ⟨0, 0, by omega, rfl, rfl, fun _ => by simp [lenQ], Below.refl _ _⟩
  case round =>
    obtain ⟨t, z, ht, rfl, rfl, hz, hb⟩ := hrel
    have HZ := Lib.hid hz
    have HB := Lib.hid hb
    clear hz hb
    by_cases hlt : t < Q.length
    · have hlt2 : 0 ≤ (t : Int) ∧ (t : Int) < Q.length := by omega
      obtain ⟨q, hq⟩ := nth_of hlt
      obtain ⟨b, o, Ai, ci, rfl, hP, _, c0', hL⟩ := HQ.out.at_ hq
      have c0 := (HB.out.cell (p := ⟨b, o + t, none⟩) hP).trans c0'
      have hbz : b < wr.heap.size := cell_lt c0
      have hqn := HQN.out q (List.mem_iff_getElem?.2 ⟨t, hq⟩)
      obtain ⟨z2, hz2⟩ : ∃ z2, z2 = wrap64 (z + q.length) := ⟨_, rfl⟩
      have HN := Lib.hid (show t + 1 ≤ 8 → z2 = lenQ (Q.take (t + 1)) ∧ z2 ≤ ((t + 1 : Nat) : Int) * 140737488355328 from fun h => by
        obtain ⟨h1, h2⟩ := HZ.out (by omega)
        have h3 : z2 = z + q.length := by
          rw [hz2]
          exact IntWalk.wrap64_in _ (by omega)
        rw [lenQ_snoc hq]
        omega)
      have HZ2 := Lib.hid hz2
      clear hq hP hL c0' hz2
      go_wp2
      exact ⟨⟨t + 1, z2, by omega, by rw [HZ2.out], by go_num, HN.out, HB.out⟩, by simp [intOf]; omega⟩
    · have hlt2 : ¬ (t : Int) < Q.length := by omega
      obtain rfl : t = Q.length := by omega
      by_cases h8 : Q.length ≤ 8
      · obtain ⟨h1, _⟩ := HZ.out h8
        rw [List.take_length] at h1
        have h8i : (Q.length : Int) ≤ 8 := by omega
        by_cases h40 : lenQ Q ≤ 40
        · have h40i : z ≤ 40 := by omega
          clear h1
          go_wp2
          go_ret
          exact ⟨_, rfl, fun _ => ⟨h8, h40⟩, HB.out⟩
        · have h40i : ¬ z ≤ 40 := by omega
          clear h1
          go_wp2
          go_ret
          exact ⟨false, rfl, fun h => (by cases h), HB.out⟩
      · have h8i : ¬ (Q.length : Int) ≤ 8 := by omega
        go_wp2
        go_ret
        exact ⟨false, rfl, fun h => (by cases h), HB.out⟩
end Go.Proofs.Ytlafkkekfkamoaa
