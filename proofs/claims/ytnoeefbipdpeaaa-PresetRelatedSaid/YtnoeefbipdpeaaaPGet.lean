/-
  Presets by the reference, for every name and every percentage.
-/
import Derived.Test.YtnoeefbipdpeaaaCGet
import Derived.MapKept
namespace Go.Proofs.Ytnoeefbipdpeaaa
open Go.RowKit
set_option maxRecDepth 100000
set_option linter.unusedVariables false

/-- The place of a name. -/
def idxN (n : ByteArray) : Nat :=
  if n = preN 0 then 0 else if n = preN 1 then 1 else if n = preN 2 then 2 else if n = preN 3 then 3 else if n = preN 4 then 4 else if n = preN 5 then 5 else 6
theorem idxN_is : ∀ i : Fin 6, idxN (preN i) = i := by decide
theorem idxN_cases (n : ByteArray) : (∃ i, i < 6 ∧ n = preN i ∧ idxN n = i) ∨ (idxN n = 6 ∧ ∀ i, i < 6 → n ≠ preN i) := by
  by_cases h : ∃ i, i < 6 ∧ n = preN i
  · obtain ⟨i, hi, rfl⟩ := h
    exact .inl ⟨i, hi, rfl, idxN_is ⟨i, hi⟩⟩
  · refine .inr ⟨?_, fun i hi e => h ⟨i, hi, e⟩⟩
    have g : ∀ i, i < 6 → n ≠ preN i := fun i hi e => h ⟨i, hi, e⟩
    unfold idxN
    rw [if_neg (g 0 (by omega)), if_neg (g 1 (by omega)), if_neg (g 2 (by omega)), if_neg (g 3 (by omega)), if_neg (g 4 (by omega)), if_neg (g 5 (by omega))]
def okP (p : Int) : Prop := 1 ≤ p ∧ p ≤ 100
instance (p : Int) : Decidable (okP p) := inferInstanceAs (Decidable (_ ∧ _))
/-- What Get answers: the name, the rules, how often a full round, the error. -/
def gN (n : ByteArray) (p : Int) : ByteArray := if okP p then preN (idxN n) else preN 6
def gR (n : ByteArray) (p : Int) : List Rl := if idxN n < 6 ∧ okP p then preR (Sh.pcF p) (idxN n) else []
def gF (n : ByteArray) (p : Int) : Int := if idxN n < 6 ∧ okP p then preF (idxN n) else 0
def gE (n : ByteArray) (p : Int) : Int := if idxN n = 6 then 7 else if okP p then 0 else 6
def GetOf (n : ByteArray) (p : Int) (w : World) (e : Ending) (w' : World) : Prop :=
  ∃ v, e = .returned (.tuple #[.agg #[.string (gN n p), v, .int .i64 (gF n p)], .int .i64 (gE n p)]) ∧ ROwn w' w.heap.size v (gR n p) ∧ Below w.heap.size w w'
theorem gets_yes {i : Nat} (hi : i < 6) {p : Int} (hp : okP p) : gN (preN i) p = preN i ∧ gR (preN i) p = preR (Sh.pcF p) i ∧ gF (preN i) p = preF i ∧ gE (preN i) p = 0 := by
  have e := idxN_is ⟨i, hi⟩
  simp only at e
  unfold gN gR gF gE
  rw [e]
  refine ⟨if_pos hp, if_pos ⟨hi, hp⟩, if_pos ⟨hi, hp⟩, ?_⟩
  rw [if_neg (by omega), if_pos hp]
theorem gets_bad {i : Nat} (hi : i < 6) {p : Int} (hp : ¬okP p) : gN (preN i) p = preN 6 ∧ gR (preN i) p = [] ∧ gF (preN i) p = 0 ∧ gE (preN i) p = 6 := by
  have e := idxN_is ⟨i, hi⟩
  simp only at e
  unfold gN gR gF gE
  rw [e]
  refine ⟨if_neg hp, if_neg (fun h => hp h.2), if_neg (fun h => hp h.2), ?_⟩
  rw [if_neg (by omega), if_neg hp]
theorem gets_none {n : ByteArray} (hn : ∀ i, i < 6 → n ≠ preN i) (p : Int) : gN n p = preN 6 ∧ gR n p = [] ∧ gF n p = 0 ∧ gE n p = 7 := by
  have e : idxN n = 6 := by
    rcases idxN_cases n with ⟨i, hi, h, _⟩ | ⟨h, _⟩
    · exact absurd h (hn i hi)
    · exact h
  unfold gN gR gF gE
  rw [e]
  exact ⟨ite_self _, if_neg (fun h => absurd h.1 (by omega)), if_neg (fun h => absurd h.1 (by omega)), if_pos rfl⟩
theorem bytes_ne {a b : ByteArray} (h : a ≠ b) : (a == b) = false := by
  rcases e : (a == b) with _ | _
  · rfl
  · exact absurd ((MapKept.bytes_beq _ _).1 e) h

theorem refGet_yes (i : Nat) (hi : i < 6) (p : Int) (w : World) (hp : okP p) : Calls Try.prog 10 #[.string (preN i), .int .i64 p] w (GetOf (preN i) p w) := by
  refine (get_any i hi p w hp.1 hp.2).mono ?_
  rintro e w' ⟨v, rfl, h1, h2⟩
  obtain ⟨e1, e2, e3, e4⟩ := gets_yes hi hp
  unfold GetOf
  rw [e1, e2, e3, e4]
  exact ⟨v, rfl, h1, h2⟩
set_option maxHeartbeats 4000000 in
theorem refGet_bad (i : Nat) (hi : i < 6) (p : Int) (h0 : -9223372036854775808 ≤ p) (h1 : p ≤ 9223372036854775807) (w : World) (hp : ¬okP p) : Calls Try.prog 10 #[.string (preN i), .int .i64 p] w (GetOf (preN i) p w) := by
  obtain ⟨e1, e2, e3, e4⟩ := gets_bad hi hp
  unfold GetOf
  rw [e1, e2, e3, e4]
  clear e1 e2 e3 e4
  have hq := fun W => Sh.refPercent_any p h0 h1 W
  have hc : Sh.pcE p = 1 ∨ (Sh.pcE p = 0 ∧ (p < 1) = True) := by
    unfold Sh.pcE
    unfold okP at hp
    split
    · exact .inr ⟨rfl, by simp; omega⟩
    · exact .inl rfl
  clear hp
  generalize Sh.pcF p = x at *
  generalize Sh.pcE p = y at *
  rcases hc with rfl | ⟨rfl, hl⟩ <;>
  rcases (by omega : i = 0 ∨ i = 1 ∨ i = 2 ∨ i = 3 ∨ i = 4 ∨ i = 5) with rfl | rfl | rfl | rfl | rfl | rfl
  all_goals (
    clear hi
    simp only [preN]
    go_enter Try.func10, Try.ntmps10
    go_wp2_with fail
    refine (hq _).mono ?_
    rintro e w' ⟨rfl, rfl⟩
    clear hq
    go_wp2_with fail)
  all_goals
    exact bodyPost_ret (v := .tuple #[.agg #[.string (preN 6), .slice none 0 0, .int .i64 0], .int .i64 6]) (by simp [results, Try.results10, go_sem, preN]) rfl
      ⟨_, rfl, ROwn.nil _ _, below_third w _ _ _⟩
set_option maxHeartbeats 4000000 in
theorem refGet_none (n : ByteArray) (hn : ∀ i, i < 6 → n ≠ preN i) (p : Int) (h0 : -9223372036854775808 ≤ p) (h1 : p ≤ 9223372036854775807) (w : World) : Calls Try.prog 10 #[.string n, .int .i64 p] w (GetOf n p w) := by
  obtain ⟨e1, e2, e3, e4⟩ := gets_none hn p
  unfold GetOf
  rw [e1, e2, e3, e4]
  clear e1 e2 e3 e4
  have hq := fun W => Sh.refPercent_any p h0 h1 W
  have b0 := bytes_ne (hn 0 (by omega))
  have b1 := bytes_ne (hn 1 (by omega))
  have b2 := bytes_ne (hn 2 (by omega))
  have b3 := bytes_ne (hn 3 (by omega))
  have b4 := bytes_ne (hn 4 (by omega))
  have b5 := bytes_ne (hn 5 (by omega))
  simp only [preN, beq_toListBytes, ByteArray.toList_mk] at b0 b1 b2 b3 b4 b5
  have hc : Sh.pcE p = 1 ∨ Sh.pcE p = 0 := by
    unfold Sh.pcE
    split
    · exact .inr rfl
    · exact .inl rfl
  clear hn
  generalize Sh.pcF p = x at *
  generalize Sh.pcE p = y at *
  rcases hc with rfl | rfl
  · go_enter Try.func10, Try.ntmps10
    go_wp2_with fail
    refine (hq _).mono ?_
    rintro e w' ⟨rfl, rfl⟩
    clear hq
    go_wp2_with fail
    exact bodyPost_ret (v := .tuple #[.agg #[.string (preN 6), .slice none 0 0, .int .i64 0], .int .i64 7]) (by simp [results, Try.results10, go_sem, preN]) rfl
      ⟨_, rfl, ROwn.nil _ _, ((Below.refl _ _).alloc (Nat.le_refl _) _).alloc (by simp) _⟩
  · rcases hd : decide (p < 1) with _ | _
    all_goals (
      go_enter Try.func10, Try.ntmps10
      go_wp2_with fail
      refine (hq _).mono ?_
      rintro e w' ⟨rfl, rfl⟩
      clear hq
      go_wp2_with fail)
    all_goals
      exact bodyPost_ret (v := .tuple #[.agg #[.string (preN 6), .slice none 0 0, .int .i64 0], .int .i64 7]) (by simp [results, Try.results10, go_sem, preN]) rfl
        ⟨_, rfl, ROwn.nil _ _, ((Below.refl _ _).alloc (Nat.le_refl _) _).alloc (by simp) _⟩
theorem refGet_any (n : ByteArray) (p : Int) (h0 : -9223372036854775808 ≤ p) (h1 : p ≤ 9223372036854775807) (w : World) : Calls Try.prog 10 #[.string n, .int .i64 p] w (GetOf n p w) := by
  rcases idxN_cases n with ⟨i, hi, rfl, _⟩ | ⟨_, hn⟩
  · by_cases hp : okP p
    · exact refGet_yes i hi p w hp
    · exact refGet_bad i hi p h0 h1 w hp
  · exact refGet_none n hn p h0 h1 w
end Go.Proofs.Ytnoeefbipdpeaaa
