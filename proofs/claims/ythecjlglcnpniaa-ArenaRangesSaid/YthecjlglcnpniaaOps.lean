/-
  Contracts of package arena's exported functions.
-/
import Derived.Test.YthecjlglcnpniaaDead
namespace Go.Proofs.Ythecjlglcnpniaa
open Go.RowKit
set_option linter.unusedVariables false

def readE (n : Nat) (a : Int) : Int := if a < 0 ∨ n ≤ a then 2 else 0
def readV (n : Nat) (f : Nat → Int) (a : Int) : Int := if a < 0 ∨ n ≤ a then 0 else f a.toNat

def fillN (n : Nat) (a k : Int) : Nat := if outE n a k = 0 then n else 0
def copyN (n : Nat) (a b k : Int) : Nat := if copyE n a b k = 0 then n else 0
theorem fillN_ok {n : Nat} {a k : Int} (h : outE n a k = 0) : fillN n a k = n := if_pos h
theorem fillN_bad {n : Nat} {a k : Int} (h : ¬ outE n a k = 0) : fillN n a k = 0 := if_neg h
theorem copyN_ok {n : Nat} {a b k : Int} (h : copyE n a b k = 0) : copyN n a b k = n := if_pos h
theorem copyN_bad {n : Nat} {a b k : Int} (h : ¬ copyE n a b k = 0) : copyN n a b k = 0 := if_neg h

/-- n words that read as f, and an error; nothing that was there has turned. -/
def GivesArr (n : Nat) (f : Nat → Int) (E : Int) (w : World) (e : Ending) (w' : World) : Prop :=
  ∃ A c, e = .returned (.tuple #[.slice A n c, .int .i64 E]) ∧ Arr w' w'.heap.size A n c f ∧ Below w.heap.size w w'
def GivesWord (v E : Int) (w : World) (e : Ending) (w' : World) : Prop :=
  e = .returned (.tuple #[.int .u64 v, .int .i64 E]) ∧ Below w.heap.size w w'

theorem below_alloc {w w' : World} {o : Obj} (h : Below (w.alloc o).heap.size (w.alloc o) w') : Below w.heap.size w w' :=
  ((Below.refl _ w).alloc (Nat.le_refl _) o).trans (h.mono (by simp))
theorem below_answer {w w1 : World} {u : Value} {o : Obj} (h : Below (w.heap.size + 1) (w.alloc o) w1) : Below w.heap.size w (w1.setCell ⟨w.heap.size, 0, none⟩ u) :=
  (((Below.refl _ w).alloc (Nat.le_refl _) o).trans (h.mono (by omega))).setCell (Nat.le_refl _) u

theorem read_any (A : Option Addr) (n c : Nat) (f : Nat → Int) (a : Int) (w : World) (h : Arr w w.heap.size A n c f) (a0 : -9223372036854775808 ≤ a) (a1 : a ≤ 9223372036854775807) :
    Calls Try.prog 12 #[.slice A n c, .int .i64 a] w (GivesWord (readV n f a) (readE n a) w) := by
  have hmf : ∀ (fn : Fn) (first cap : Array Value) (w : World), (Instr.makeFunc fn first cap).run Try.prog w = .ok (.func fn first cap) w := fun _ _ _ _ => rfl
  obtain ⟨W, hW⟩ : ∃ W, W = (w.alloc (.cells #[.slice A n c] 22)).alloc (.cells #[.int .i64 a] 3) := ⟨_, rfl⟩
  have hb : Below w.heap.size w W := by rw [hW]; exact ((Below.refl _ w).alloc (Nat.le_refl _) _).alloc (by simp) _
  have hp : W.cell? ⟨w.heap.size, 0, none⟩ = some (.slice A n c) := by rw [hW]; go_simp
  have hq : W.cell? ⟨w.heap.size + 1, 0, none⟩ = some (.int .i64 a) := by rw [hW]; go_simp
  have hz : w.heap.size + 2 ≤ W.heap.size := by rw [hW]; simp
  have hb3 := (Below.refl W.heap.size W).alloc (Nat.le_refl _) (.cells #[.int .i64 0] 27)
  have hp3 := (hb3.cell (p := ⟨w.heap.size, 0, none⟩) (by show w.heap.size < _; omega)).trans hp
  have hq3 := (hb3.cell (p := ⟨w.heap.size + 1, 0, none⟩) (by show w.heap.size + 1 < _; omega)).trans hq
  have hA3 : Arr (W.alloc (.cells #[.int .i64 0] 27)) w.heap.size A n c f := (h.below hb).below (hb3.mono (by omega))
  have HW := Lib.hid hW
  have HB := Lib.hid hb
  have HP := Lib.hid hp3
  have HQ := Lib.hid hq3
  have HA := Lib.hid hA3
  have HE : ∀ cs w, (callFunc 22 cs).run Try.prog w = .ok (.enter 22 cs) w := by intro cs w; go_simp
  have HF := Lib.hid HE
  clear hW hb hp hq hb3 hp3 hq3 hA3 HE
  by_cases hc : a < 0 ∨ n ≤ a
  · have e1 : readV n f a = 0 := by unfold readV; rw [if_pos hc]
    have e2 : readE n a = 2 := by unfold readE; rw [if_pos hc]
    rw [e1, e2]
    clear e1 e2
    go_enter Try.func12, Try.ntmps12
    go_wp2_with fail
    rw [← HW.out]
    refine (fail_word (c := 2) (HF.out _) ?_).mono ?_
    · refine (readIn_out A n c a _ _ _ h.1 h.2.1 hc a0 a1 HP.out HQ.out).mono ?_
      rintro e w' ⟨rfl, rfl⟩
      exact ⟨rfl, by simpa using Below.refl _ _⟩
    · rintro e w' ⟨rfl, hb⟩
      have HB2 := Lib.hid (HB.out.trans (hb.mono (by omega)))
      clear hb h
      go_wp2
      go_ret2
      exact ⟨rfl, HB2.out⟩
  · have e1 : readV n f a = f a.toNat := by unfold readV; rw [if_neg hc]
    have e2 : readE n a = 0 := by unfold readE; rw [if_neg hc]
    rw [e1, e2]
    clear e1 e2
    go_enter Try.func12, Try.ntmps12
    go_wp2_with fail
    rw [← HW.out]
    refine (ret_word (R := fun v _ => v = .int .u64 (f a.toNat)) (HF.out _) ?_).mono ?_
    · refine (readIn_ok A n c f a _ _ _ w.heap.size HA.out (by omega) (by omega) HP.out HQ.out).mono ?_
      rintro e w' ⟨rfl, rfl⟩
      exact ⟨_, rfl, rfl, by simpa using Below.refl _ _⟩
    · rintro e w' ⟨v, w1, rfl, rfl, hb, rfl⟩
      have HB2 := Lib.hid (HB.out.trans ((below_answer hb (u := .int .i64 0)).mono (by omega)))
      clear hb h
      go_wp2
      go_ret2
      exact ⟨rfl, HB2.out⟩

theorem fill_any (A : Option Addr) (n c : Nat) (f : Nat → Int) (a k v : Int) (w : World) (h : Arr w w.heap.size A n c f) (hn : n ≤ 1048576) (a0 : -9223372036854775808 ≤ a) (a1 : a ≤ 9223372036854775807) :
    Calls Try.prog 18 #[.slice A n c, .int .i64 a, .int .i64 k, .int .u64 v] w (GivesArr (fillN n a k) (putF f a.toNat k.toNat v) (outE n a k) w) := by
  have hmf : ∀ (fn : Fn) (first cap : Array Value) (w : World), (Instr.makeFunc fn first cap).run Try.prog w = .ok (.func fn first cap) w := fun _ _ _ _ => rfl
  obtain ⟨W, hW⟩ : ∃ W, W = ((((w.alloc (.cells #[.slice A n c] 22)).alloc (.cells #[.int .i64 a] 3)).alloc (.cells #[.int .i64 k] 3)).alloc (.cells #[.int .u64 v] 23)) := ⟨_, rfl⟩
  have hb : Below w.heap.size w W := by rw [hW]; exact (((((Below.refl _ w).alloc (Nat.le_refl _) _).alloc (by simp; try omega) _).alloc (by simp; try omega) _).alloc (by simp; try omega) _)
  have hp : W.cell? ⟨w.heap.size, 0, none⟩ = some (.slice A n c) := by rw [hW]; go_simp
  have hq0 : W.cell? ⟨w.heap.size + 1, 0, none⟩ = some (.int .i64 a) := by rw [hW]; go_simp
  have hq1 : W.cell? ⟨w.heap.size + 1 + 1, 0, none⟩ = some (.int .i64 k) := by rw [hW]; go_simp
  have hq2 : W.cell? ⟨w.heap.size + 1 + 1 + 1, 0, none⟩ = some (.int .u64 v) := by rw [hW]; go_simp
  have hz : w.heap.size + 4 ≤ W.heap.size := by rw [hW]; simp
  have hb3 := (Below.refl W.heap.size W).alloc (Nat.le_refl _) (.cells #[.int .i64 0] 27)
  have hp3 := (hb3.cell (p := ⟨w.heap.size, 0, none⟩) (by show w.heap.size < _; omega)).trans hp
  have HP := Lib.hid hp3
  have hr0 := (hb3.cell (p := ⟨w.heap.size + 1, 0, none⟩) (by show w.heap.size + 1 < _; omega)).trans hq0
  have HR0 := Lib.hid hr0
  have hr1 := (hb3.cell (p := ⟨w.heap.size + 1 + 1, 0, none⟩) (by show w.heap.size + 1 + 1 < _; omega)).trans hq1
  have HR1 := Lib.hid hr1
  have hr2 := (hb3.cell (p := ⟨w.heap.size + 1 + 1 + 1, 0, none⟩) (by show w.heap.size + 1 + 1 + 1 < _; omega)).trans hq2
  have HR2 := Lib.hid hr2
  have hA3 : Arr (W.alloc (.cells #[.int .i64 0] 27)) (W.alloc (.cells #[.int .i64 0] 27)).heap.size A n c f := ((h.below hb).below (hb3.mono (by omega))).more (by simp; omega)
  have HW := Lib.hid hW
  have HB := Lib.hid hb
  have HA := Lib.hid hA3
  have HE : ∀ cs w, (callFunc 28 cs).run Try.prog w = .ok (.enter 28 cs) w := by intro cs w; go_simp
  have HF := Lib.hid HE
  clear hW hb hp hb3 hp3 hA3 HE hq0 hr0 hq1 hr1 hq2 hr2
  by_cases hc : outE n a k = 0
  · obtain ⟨z0, z1, z2⟩ := outE_zero hc
    rw [fillN_ok hc, hc]
    clear hc
    go_enter Try.func18, Try.ntmps18
    go_wp2_with fail
    rw [← HW.out]
    refine (ret_words (R := OwnV (W.heap.size + 1) n (putF f a.toNat k.toNat v)) (HF.out _) ?_).mono ?_
    · refine (fillIn_ok A n c f a k v _ _ _ _ _ HA.out hn z0 z1 z2 HP.out HR0.out HR1.out HR2.out).mono ?_
      rintro e w' ⟨v', rfl, ho, hb⟩
      exact ⟨_, rfl, by simpa using ho, by simpa using hb⟩
    · rintro e w' ⟨v', w1, rfl, ⟨A2, c2, rfl, ho⟩, hb, rfl⟩
      have HB2 := Lib.hid (HB.out.trans ((below_answer hb (u := .int .i64 0)).mono (by omega)))
      have HO := Lib.hid (ho.far (p := ⟨W.heap.size, 0, none⟩) (Nat.lt_succ_self _) (.int .i64 0)).arr
      clear hb h ho
      go_wp2
      go_ret2
      exact ⟨A2, c2, rfl, HO.out, HB2.out⟩
  · rw [fillN_bad hc]
    have HC := Lib.hid hc
    clear hc
    go_enter Try.func18, Try.ntmps18
    go_wp2_with fail
    rw [← HW.out]
    refine (fail_words (c := outE n a k) (HF.out _) ?_).mono ?_
    · refine (fillIn_bad A n c f a k v _ _ _ _ _ HA.out hn HC.out a0 a1 HP.out HR0.out HR1.out).mono ?_
      rintro e w' ⟨rfl, hb⟩
      exact ⟨rfl, by simpa using hb⟩
    · rintro e w' ⟨rfl, hb⟩
      have HB2 := Lib.hid (HB.out.trans (hb.mono (by omega)))
      clear hb h
      go_wp2
      go_ret2
      exact ⟨none, 0, rfl, Arr.nil _ _ _, HB2.out⟩


theorem copyE_zero {n : Nat} {a b k : Int} (h : copyE n a b k = 0) : 0 ≤ k ∧ 0 ≤ a ∧ k ≤ n - a ∧ 0 ≤ b ∧ k ≤ n - b := by
  unfold copyE at h
  split at h
  · cases h
  · split at h
    · cases h
    · omega
theorem copyE_some {n : Nat} {a b k : Int} (h : copyE n a b k ≠ 0) : outE n b k ≠ 0 ∨ outE n a k ≠ 0 := by
  by_cases h1 : outE n b k = 0
  · by_cases h2 : outE n a k = 0
    · obtain ⟨z0, z1, z2⟩ := outE_zero h1
      obtain ⟨y0, y1, y2⟩ := outE_zero h2
      exact absurd (by unfold copyE; rw [if_neg (by omega), if_neg (by omega)]) h
    · exact .inr h2
  · exact .inl h1

theorem copy_any (A : Option Addr) (n c : Nat) (f : Nat → Int) (a b k : Int) (w : World) (h : Arr w w.heap.size A n c f) (hn : n ≤ 1048576) (a0 : -9223372036854775808 ≤ a) (a1 : a ≤ 9223372036854775807) (b0 : -9223372036854775808 ≤ b) (b1 : b ≤ 9223372036854775807) :
    Calls Try.prog 16 #[.slice A n c, .int .i64 a, .int .i64 b, .int .i64 k] w (GivesArr (copyN n a b k) (copyF f a.toNat b.toNat k.toNat) (copyE n a b k) w) := by
  have hmf : ∀ (fn : Fn) (first cap : Array Value) (w : World), (Instr.makeFunc fn first cap).run Try.prog w = .ok (.func fn first cap) w := fun _ _ _ _ => rfl
  obtain ⟨W, hW⟩ : ∃ W, W = ((((w.alloc (.cells #[.slice A n c] 22)).alloc (.cells #[.int .i64 a] 3)).alloc (.cells #[.int .i64 b] 3)).alloc (.cells #[.int .i64 k] 3)) := ⟨_, rfl⟩
  have hb : Below w.heap.size w W := by rw [hW]; exact (((((Below.refl _ w).alloc (Nat.le_refl _) _).alloc (by simp; try omega) _).alloc (by simp; try omega) _).alloc (by simp; try omega) _)
  have hp : W.cell? ⟨w.heap.size, 0, none⟩ = some (.slice A n c) := by rw [hW]; go_simp
  have hq0 : W.cell? ⟨w.heap.size + 1, 0, none⟩ = some (.int .i64 a) := by rw [hW]; go_simp
  have hq1 : W.cell? ⟨w.heap.size + 1 + 1, 0, none⟩ = some (.int .i64 b) := by rw [hW]; go_simp
  have hq2 : W.cell? ⟨w.heap.size + 1 + 1 + 1, 0, none⟩ = some (.int .i64 k) := by rw [hW]; go_simp
  have hz : w.heap.size + 4 ≤ W.heap.size := by rw [hW]; simp
  have hb3 := (Below.refl W.heap.size W).alloc (Nat.le_refl _) (.cells #[.int .i64 0] 27)
  have hp3 := (hb3.cell (p := ⟨w.heap.size, 0, none⟩) (by show w.heap.size < _; omega)).trans hp
  have HP := Lib.hid hp3
  have hr0 := (hb3.cell (p := ⟨w.heap.size + 1, 0, none⟩) (by show w.heap.size + 1 < _; omega)).trans hq0
  have HR0 := Lib.hid hr0
  have hr1 := (hb3.cell (p := ⟨w.heap.size + 1 + 1, 0, none⟩) (by show w.heap.size + 1 + 1 < _; omega)).trans hq1
  have HR1 := Lib.hid hr1
  have hr2 := (hb3.cell (p := ⟨w.heap.size + 1 + 1 + 1, 0, none⟩) (by show w.heap.size + 1 + 1 + 1 < _; omega)).trans hq2
  have HR2 := Lib.hid hr2
  have hA3 : Arr (W.alloc (.cells #[.int .i64 0] 27)) (W.alloc (.cells #[.int .i64 0] 27)).heap.size A n c f := ((h.below hb).below (hb3.mono (by omega))).more (by simp; omega)
  have HW := Lib.hid hW
  have HB := Lib.hid hb
  have HA := Lib.hid hA3
  have HE : ∀ cs w, (callFunc 25 cs).run Try.prog w = .ok (.enter 25 cs) w := by intro cs w; go_simp
  have HF := Lib.hid HE
  clear hW hb hp hb3 hp3 hA3 HE hq0 hr0 hq1 hr1 hq2 hr2
  by_cases hc : copyE n a b k = 0
  · obtain ⟨z0, z1, z2, z3, z4⟩ := copyE_zero hc
    rw [copyN_ok hc, hc]
    clear hc
    go_enter Try.func16, Try.ntmps16
    go_wp2_with fail
    rw [← HW.out]
    refine (ret_words (R := OwnV (W.heap.size + 1) n (copyF f a.toNat b.toNat k.toNat)) (HF.out _) ?_).mono ?_
    · refine (copyIn_ok A n c f a b k _ _ _ _ _ HA.out hn z0 z1 z2 z3 z4 HP.out HR1.out HR2.out HR0.out).mono ?_
      rintro e w' ⟨v', rfl, ho, hb⟩
      exact ⟨_, rfl, by simpa using ho, by simpa using hb⟩
    · rintro e w' ⟨v', w1, rfl, ⟨A2, c2, rfl, ho⟩, hb, rfl⟩
      have HB2 := Lib.hid (HB.out.trans ((below_answer hb (u := .int .i64 0)).mono (by omega)))
      have HO := Lib.hid (ho.far (p := ⟨W.heap.size, 0, none⟩) (Nat.lt_succ_self _) (.int .i64 0)).arr
      clear hb h ho
      go_wp2
      go_ret2
      exact ⟨A2, c2, rfl, HO.out, HB2.out⟩
  · rw [copyN_bad hc]
    have HC := Lib.hid hc
    clear hc
    go_enter Try.func16, Try.ntmps16
    go_wp2_with fail
    rw [← HW.out]
    refine (fail_words (c := copyE n a b k) (HF.out _) ?_).mono ?_
    · refine (copyIn_bad A n c f a b k _ _ _ _ _ HA.out hn (copyE_some HC.out) a0 a1 b0 b1 HP.out HR1.out HR2.out HR0.out).mono ?_
      rintro e w' ⟨rfl, hb⟩
      exact ⟨rfl, by simpa using hb⟩
    · rintro e w' ⟨rfl, hb⟩
      have HB2 := Lib.hid (HB.out.trans (hb.mono (by omega)))
      clear hb h
      go_wp2
      go_ret2
      exact ⟨none, 0, rfl, Arr.nil _ _ _, HB2.out⟩


theorem write_any (A : Option Addr) (n c : Nat) (f : Nat → Int) (a v : Int) (w : World) (h : Arr w w.heap.size A n c f) (hn : n ≤ 1048576) (a0 : -9223372036854775808 ≤ a) (a1 : a ≤ 9223372036854775807) :
    Calls Try.prog 14 #[.slice A n c, .int .i64 a, .int .u64 v] w (GivesArr (fillN n a 1) (putF f a.toNat 1 v) (outE n a 1) w) := by
  have H := Lib.hid h
  clear h
  go_enter Try.func14, Try.ntmps14
  go_wp2_with fail
  refine (fill_any A n c f a 1 v _ H.out hn a0 a1).mono ?_
  rintro e w' ⟨A2, c2, rfl, hA, hb⟩
  have HA := Lib.hid hA
  have HB := Lib.hid hb
  clear hA hb
  go_wp2
  go_ret2
  exact ⟨A2, c2, rfl, HA.out, HB.out⟩
end Go.Proofs.Ythecjlglcnpniaa
