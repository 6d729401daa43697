/-
  The reference's Digits.
-/
import Derived.Test.YtnoeefbipdpeaaaNStr
import Derived.Test.YtnoeefbipdpeaaaMBase
import Derived.Laws.IdiomStrings
import Derived.Outline
import Derived.LoopTactic
namespace Go.Proofs.Ytnoeefbipdpeaaa
open Go.RowKit
set_option maxRecDepth 100000
set_option linter.unusedVariables false

/-- 'string(b)' where b's cells are the bytes L. -/
theorem tx_back (w : World) (a : Addr) (cap n : Nat) (L : List Nat) (hn : n = L.length) (hL : Byt L) (hc : ∀ (j c : Nat), L[j]? = some c → w.cell? (a.add j) = some (.int .u8 c)) :
    (convert 60 9 (.slice (some a) n cap)).run Try.prog w = .ok (.string (tx L)) w := by
  subst hn
  have h := run_convert_bytes_back (P := Try.prog) w 60 9 5 a cap (L.map UInt8.ofNat) Try.underlying60 Try.underlying5 Try.underlying9 (fun j hj => by
    rw [List.length_map] at hj
    have e := hc j L[j] (List.getElem?_eq_getElem hj)
    have hlt := hL L[j] (List.getElem_mem _)
    rw [e, List.getElem_map, UInt8.toNat_ofNat', Nat.mod_eq_of_lt (by omega)])
  rw [List.length_map] at h
  exact h
def GivesTx (L : List Nat) (w : World) (e : Ending) (w' : World) : Prop := e = .returned (.string (tx L)) ∧ Below w.heap.size w w'
set_option maxHeartbeats 2000000 in
theorem digits_small (n : Nat) (w : World) (h : n < 10) : Calls Try.prog 21 #[.int .i64 n] w (GivesTx [48 + n] w) := by
  have hw : IntKind.i64.wrap (48 + (n : Int)) = ((48 + n : Nat) : Int) := by rw [IntWalk.i64_in _ (by omega)]; omega
  have hu : IntKind.u8.wrap ((48 + n : Nat) : Int) = ((48 + n : Nat) : Int) := by unfold IntKind.wrap; simp [IntKind.bits, IntKind.signed]; omega
  have hb : Byt [48 + n] := fun c hc => by simp at hc; omega
  have hcv := tx_back (w.alloc (.cells #[.int .u8 ((48 + n : Nat) : Int)] 5)) ⟨w.heap.size, 0, none⟩ 1 1 [48 + n] rfl hb (fun j c hj => by
    have : j = 0 := by
      have := (List.getElem?_eq_some_iff.1 hj).1
      simp at this
      omega
    subst this
    injection hj with hj
    subst hj
    exact (Blk.new w 5 #[.int .u8 ((48 + n : Nat) : Int)]).cell 0)
  have hn : (n : Int) < 10 := by omega
  generalize 48 + n = m at *
  go_enter Try.func21, Try.ntmps21
  go_wp2_with fail
  go_ret
  exact ⟨rfl, (Below.refl _ _).alloc (Nat.le_refl _) _⟩
theorem below_two {B : Nat} {w w1 w2 : World} (h : Below B w w1) (hB : B ≤ w1.heap.size) (h2 : Below w1.heap.size w1 w2) : Below B w w2 := h.trans (h2.mono hB)
set_option maxHeartbeats 2000000 in
/-- A number in decimal. -/
theorem digits_any : ∀ (m n : Nat) (w : World), n ≤ m → n ≤ 9999 → Calls Try.prog 21 #[.int .i64 n] w (GivesTx (decL n) w) := by
  intro m
  induction m with
  | zero =>
    intro n w h1 h2
    rw [decL_small (by omega)]
    exact digits_small n w (by omega)
  | succ m ih =>
    intro n w h1 h2
    by_cases h : n < 10
    · rw [decL_small h]
      exact digits_small n w h
    · rw [decL_big h]
      have e2 : decL (n % 10) = [48 + n % 10] := decL_small (by omega)
      have c1 := fun W => ih (n / 10) W (by omega) (by omega)
      have c2 := fun W => digits_small (n % 10) W (by omega)
      have q1 : (n : Int).tdiv 10 = ((n / 10 : Nat) : Int) := by rw [Int.tdiv_eq_ediv_of_nonneg (by omega)]; omega
      have q2 : (n : Int).tmod 10 = ((n % 10 : Nat) : Int) := by rw [Int.tmod_eq_emod_of_nonneg (by omega)]; omega
      have hsz : (tx (decL (n / 10))).size = (decL (n / 10)).length := tx_size _
      have hsz2 : (tx [48 + n % 10]).size = 1 := tx_size _
      have hle : (decL (n / 10)).length ≤ 4 := by
        rcases decL_cases (n := n / 10) (by omega) with ⟨_, e⟩ | ⟨_, _, e⟩ | ⟨_, _, e⟩ | ⟨_, e⟩ <;> (rw [e]; simp)
      have hap := tx_append (decL (n / 10)) [48 + n % 10]
      have hn : ¬ (n : Int) < 10 := by omega
      have hw1 : wrap64 ((n / 10 : Nat) : Int) = ((n / 10 : Nat) : Int) := by unfold wrap64; omega
      clear e2 ih h h1
      generalize decL (n / 10) = A at *
      generalize [48 + n % 10] = B at *
      generalize n / 10 = d at *
      generalize n % 10 = r at *
      go_enter Try.func21, Try.ntmps21
      go_wp2_with fail
      refine (c1 _).mono ?_
      rintro e w1 ⟨rfl, hb1⟩
      clear c1
      go_wp2_with fail
      refine (c2 _).mono ?_
      rintro e w2 ⟨rfl, hb2⟩
      clear c2
      have HB := Lib.hid (below_two hb1 hb1.size hb2)
      clear hb1 hb2
      go_wp2_with fail
      go_ret
      exact ⟨rfl, HB.out⟩
end Go.Proofs.Ytnoeefbipdpeaaa
