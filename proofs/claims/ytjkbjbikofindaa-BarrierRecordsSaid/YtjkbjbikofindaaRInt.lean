/-
  The reference's Into of remembered sets: the slots that point into frames from outside.
-/
import Derived.Test.YtjkbjbikofindaaRDrp
namespace Go.Proofs.Ytjkbjbikofindaa
open Go.RowKit
set_option maxRecDepth 100000
set_option linter.unusedVariables false

/-- A row of numbers and how many slots there were. -/
def GivesInto (S : List Int) (n lo : Nat) (w : World) (e : Ending) (w' : World) : Prop := ∃ A c, e = .returned (.tuple #[.slice A S.length c, .int .i64 n]) ∧ SArr w' (Inn w' lo) A c S ∧ Below w.heap.size w w'
theorem intoS_next {F : List Int} {L : List SetR} {t : Nat} {x : SetR} (h : L[t]? = some x) :
    intoS F (L.take (t + 1)) = (if inS F x = true then x.sl.foldl (fun a s => withL s a) (intoS F (L.take t)) else intoS F (L.take t)) ∧
    cntT ((L.take (t + 1)).filter (inS F)) = (if inS F x = true then cntT ((L.take t).filter (inS F)) + x.sl.length else cntT ((L.take t).filter (inS F))) := by
  rw [List.take_add_one, h]
  unfold intoS
  rw [List.filter_append]
  by_cases hi : inS F x = true
  · rw [if_pos hi, if_pos hi]
    simp [hi, List.foldl_append, cntT]
  · rw [if_neg hi, if_neg hi]
    simp [hi]
theorem cntF_le (F : List Int) (L : List SetR) (t : Nat) : cntT ((L.take t).filter (inS F)) ≤ cntT L := by
  have h1 := cnt_parts F (L.take t)
  have h2 := cntS_take L t
  omega
theorem foldw_next {S : List Int} {u : Nat} {y : Int} (h : S[u]? = some y) (a : List Int) : (S.take (u + 1)).foldl (fun a s => withL s a) a = withL y ((S.take u).foldl (fun a s => withL s a) a) := by
  rw [List.take_add_one, h]
  simp [List.foldl_append]
theorem foldw_len : ∀ (S a : List Int), (S.foldl (fun a s => withL s a) a).length ≤ a.length + S.length
  | [], a => by simp
  | x :: S, a => by
    have := foldw_len S (withL x a)
    have := (withL_len x a).2
    simp only [List.foldl_cons, List.length_cons]
    omega
theorem inS_eq (F : List Int) (x : SetR) : inS F x = (decide (x.tg ∈ F) && !decide (x.fr ∈ F)) := by simp [inS]

end Go.Proofs.Ytjkbjbikofindaa
