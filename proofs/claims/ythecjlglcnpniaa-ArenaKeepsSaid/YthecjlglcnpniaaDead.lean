/-
  The closure of Copy, where the words don't exist: in whatever order its reads come, it panics with the same error.
-/
import Derived.Test.YthecjlglcnpniaaCopy
import Derived.Orders
namespace Go.Proofs.Ythecjlglcnpniaa
open Go.RowKit
set_option linter.unusedVariables false

def cp8 : Oper := { dst := some 8, op := Op.move (Operand.tmp 5), type := 22, pos := "arena.go:41", after := #[], guard := none }
def cp9 : Oper := { dst := some 9, op := Op.load 3 (Operand.tmp 1), type := 3, pos := "arena.go:41", after := #[], guard := none }
def cp10 : Oper := { dst := some 10, op := Op.load 3 (Operand.tmp 2), type := 3, pos := "arena.go:41", after := #[], guard := none }
def cp11 : Oper := { dst := some 11, op := Op.call { callee := Callee.value (Operand.func 23), args := #[Operand.tmp 8, Operand.tmp 9, Operand.tmp 10], argTypes := #[22, 3, 3] }, type := 22, pos := "arena.go:41", after := #[{ on := 0, ground := Ground.data }, { on := 1, ground := Ground.data }, { on := 2, ground := Ground.data }], guard := none }
def cp12 : Oper := { dst := some 12, op := Op.load 22 (Operand.tmp 0), type := 22, pos := "arena.go:41", after := #[], guard := none }
def cp13 : Oper := { dst := some 13, op := Op.load 3 (Operand.tmp 3), type := 3, pos := "arena.go:41", after := #[], guard := none }
def cp14 : Oper := { dst := some 14, op := Op.load 3 (Operand.tmp 2), type := 3, pos := "arena.go:41", after := #[], guard := none }
def cp15 : Oper := { dst := some 15, op := Op.call { callee := Callee.value (Operand.func 23), args := #[Operand.tmp 12, Operand.tmp 13, Operand.tmp 14], argTypes := #[22, 3, 3] }, type := 22, pos := "arena.go:41", after := #[{ on := 4, ground := Ground.data }, { on := 5, ground := Ground.data }, { on := 6, ground := Ground.data }, { on := 3, ground := Ground.chain }], guard := none }
def cp16 : Oper := { dst := some 16, op := Op.call { callee := Callee.builtin Builtin.copy, args := #[Operand.tmp 11, Operand.tmp 15], argTypes := #[22, 22] }, type := 3, pos := "arena.go:41", after := #[{ on := 3, ground := Ground.data }, { on := 7, ground := Ground.data }, { on := 7, ground := Ground.chain }], guard := none }
def copyOps : Array Oper := #[cp8, cp9, cp10, cp11, cp12, cp13, cp14, cp15, cp16]

def copyE (n : Nat) (a b k : Int) : Int := if k < 0 then 1 else if (a < 0 ∨ n - a < k) ∨ (b < 0 ∨ n - b < k) then 2 else 0
theorem copyE_left {n : Nat} {a b k : Int} (h : outE n b k ≠ 0) : outE n b k = copyE n a b k := by
  unfold outE copyE at *
  split
  · rfl
  · rw [if_neg (by assumption)] at h
    split
    · rw [if_pos (by omega)]
    · rename_i h2
      rw [if_neg h2] at h
      exact absurd rfl h
theorem copyE_right {n : Nat} {a b k : Int} (h : outE n a k ≠ 0) : outE n a k = copyE n a b k := by
  unfold outE copyE at *
  split
  · rfl
  · rw [if_neg (by assumption)] at h
    split
    · rw [if_pos (by omega)]
    · rename_i h2
      rw [if_neg h2] at h
      exact absurd rfl h
theorem outE_zero {n : Nat} {a k : Int} (h : outE n a k = 0) : 0 ≤ k ∧ 0 ≤ a ∧ k ≤ n - a := by
  unfold outE at h
  split at h
  · cases h
  · split at h
    · cases h
    · omega

def left (b : Bool) : Nat := if b then 0 else 1
theorem left_false : left false = 1 := rfl
theorem left_true : left true = 0 := rfl

theorem wpOp_at {P : Program} {ops : Array Oper} {Q : Exit → Act → World → Prop} {K : Act → World → Prop} {i : Nat} {o : Oper} {a : Act} {w : World} (hi : ops[i]? = some o) (hg : o.guard = none)
    (h : o.wp P a w K Q) : wpOp P ops Q i K a w := by
  unfold wpOp
  simp only [hi]
  rw [if_pos (by simp [Region.wanted, hg])]
  exact .inl h

theorem copy_dead {Q : Exit → Act → World → Prop} {n c c1 : Nat} {A A1 : Option Addr} {a b k : Int} {p q r s : Nat} {x6 x7 x17 : Value} {w : World}
    (hp : w.cell? ⟨p, 0, none⟩ = some (.slice A n c)) (hq : w.cell? ⟨q, 0, none⟩ = some (.int .i64 b)) (hr : w.cell? ⟨r, 0, none⟩ = some (.int .i64 k)) (hs : w.cell? ⟨s, 0, none⟩ = some (.int .i64 a))
    (hle : n ≤ c1) (hm : c1 ≤ maxLen) (hcA : A1 = none → c1 = 0) (hleA : n ≤ c) (hmA : c ≤ maxLen)
    (a0 : -9223372036854775808 ≤ a) (a1 : a ≤ 9223372036854775807) (b0 : -9223372036854775808 ≤ b) (b1 : b ≤ 9223372036854775807)
    (hE : outE n b k ≠ 0 ∨ outE n a k ≠ 0) (hQ : ∀ t, Q (.panic (Fault (copyE n a b k))) { tmps := t, defers := [] } w) :
    ∀ (fuel : Nat) (l0 l1 l2 l3 l4 l5 l6 : Bool) (y8 y9 y10 y11 y12 y13 y14 y15 y16 : Value),
      (l0 = true → y8 = .slice A1 n c1) → (l1 = true → y9 = .int .i64 b) → (l2 = true → y10 = .int .i64 k) → (l3 = true → outE n b k = 0) →
      (l4 = true → y12 = .slice A n c) → (l5 = true → y13 = .int .i64 a) → (l6 = true → y14 = .int .i64 k) →
      left l0 + left l1 + left l2 + left l3 + left l4 + left l5 + left l6 + 2 ≤ fuel →
      wpAny Try.prog .any copyOps Q fuel #[l0, l1, l2, l3, l4, l5, l6, false, false]
        { tmps := #[.pointer (some ⟨p, 0, none⟩), .pointer (some ⟨q, 0, none⟩), .pointer (some ⟨r, 0, none⟩), .pointer (some ⟨s, 0, none⟩), .slice none 0 0, .slice A1 n c1, x6, x7, y8, y9, y10, y11, y12, y13, y14, y15, y16, x17], defers := [] } w := by
  intro fuel
  induction fuel with
  | zero => intros; omega
  | succ fuel ih =>
    intro l0 l1 l2 l3 l4 l5 l6 y8 y9 y10 y11 y12 y13 y14 y15 y16 h0 h1 h2 h3 h4 h5 h6 hf
    refine ⟨fun hready => ?_, fun i hi => ?_⟩
    · exfalso
      have hno : ∀ i, i ∉ Region.ready .any copyOps #[l0, l1, l2, l3, l4, l5, l6, false, false] := by rw [hready]; simp
      have e0 : l0 = true := by
        by_cases h : l0 = true
        · exact h
        · exact absurd (mem_ready.2 ⟨by simpa using h, cp8, rfl, by simp [cp8]⟩) (hno 0)
      have e1 : l1 = true := by
        by_cases h : l1 = true
        · exact h
        · exact absurd (mem_ready.2 ⟨by simpa using h, cp9, rfl, by simp [cp9]⟩) (hno 1)
      have e2 : l2 = true := by
        by_cases h : l2 = true
        · exact h
        · exact absurd (mem_ready.2 ⟨by simpa using h, cp10, rfl, by simp [cp10]⟩) (hno 2)
      have e3 : l3 = true := by
        by_cases h : l3 = true
        · exact h
        · exact absurd (mem_ready.2 ⟨by simpa using h, cp11, rfl, by simp [cp11, Region.binds, e0, e1, e2]⟩) (hno 3)
      have e4 : l4 = true := by
        by_cases h : l4 = true
        · exact h
        · exact absurd (mem_ready.2 ⟨by simpa using h, cp12, rfl, by simp [cp12]⟩) (hno 4)
      have e5 : l5 = true := by
        by_cases h : l5 = true
        · exact h
        · exact absurd (mem_ready.2 ⟨by simpa using h, cp13, rfl, by simp [cp13]⟩) (hno 5)
      have e6 : l6 = true := by
        by_cases h : l6 = true
        · exact h
        · exact absurd (mem_ready.2 ⟨by simpa using h, cp14, rfl, by simp [cp14]⟩) (hno 6)
      exact absurd (mem_ready.2 ⟨by simp, cp15, rfl, by simp [cp15, Region.binds, e3, e4, e5, e6]⟩) (hno 7)
    · obtain ⟨g1, o, ho, hdep⟩ := mem_ready.1 hi
      have hlt : i < 9 := by
        rcases Nat.lt_or_ge i 9 with h | h
        · exact h
        · rw [show copyOps[i]? = none from Array.getElem?_eq_none (by simpa [copyOps] using h)] at ho
          cases ho
      have hlt2 := hlt
      clear hi hlt
      match i, hlt2 with
      | 0, _ =>
        obtain rfl : cp8 = o := by injection ho
        simp at g1
        subst g1
        refine wpOp_at (o := cp8) rfl rfl ?_
        generalize hK : wpAny Try.prog Region.Mode.any copyOps Q fuel _ = K
        simp [Oper.wp, cp8, go_sem]
        subst hK
        exact ih true l1 l2 l3 l4 l5 l6 (.slice A1 n c1) y9 y10 y11 y12 y13 y14 y15 y16 (fun _ => rfl) h1 h2 h3 h4 h5 h6 (by simp only [left_false, left_true] at hf ⊢; omega)
      | 1, _ =>
        obtain rfl : cp9 = o := by injection ho
        simp at g1
        subst g1
        refine wpOp_at (o := cp9) rfl rfl ?_
        generalize hK : wpAny Try.prog Region.Mode.any copyOps Q fuel _ = K
        simp [Oper.wp, cp9, go_sem, hq]
        subst hK
        exact ih l0 true l2 l3 l4 l5 l6 y8 (.int .i64 b) y10 y11 y12 y13 y14 y15 y16 h0 (fun _ => rfl) h2 h3 h4 h5 h6 (by simp only [left_false, left_true] at hf ⊢; omega)
      | 2, _ =>
        obtain rfl : cp10 = o := by injection ho
        simp at g1
        subst g1
        refine wpOp_at (o := cp10) rfl rfl ?_
        generalize hK : wpAny Try.prog Region.Mode.any copyOps Q fuel _ = K
        simp [Oper.wp, cp10, go_sem, hr]
        subst hK
        exact ih l0 l1 true l3 l4 l5 l6 y8 y9 (.int .i64 k) y11 y12 y13 y14 y15 y16 h0 h1 (fun _ => rfl) h3 h4 h5 h6 (by simp only [left_false, left_true] at hf ⊢; omega)
      | 3, _ =>
        obtain rfl : cp11 = o := by injection ho
        simp [cp11, Region.binds] at g1 hdep
        obtain ⟨d0, d1, d2⟩ := hdep
        rw [h0 d0, h1 d1, h2 d2]
        subst g1
        refine wpOp_at (o := cp11) rfl rfl ?_
        generalize hK : wpAny Try.prog Region.Mode.any copyOps Q fuel _ = K
        simp [Oper.wp, cp11, go_sem]
        by_cases hb : outE n b k = 0
        · obtain ⟨z0, z1, z2⟩ := outE_zero hb
          refine (span_ok A1 n c1 b k w z0 z1 z2 hle hm hcA).mono ?_
          rintro e w' ⟨rfl, rfl⟩
          subst hK
          exact ih l0 l1 l2 true l4 l5 l6 (.slice A1 n c1) (.int .i64 b) (.int .i64 k) _ y12 y13 y14 y15 y16 (fun _ => rfl) (fun _ => rfl) (fun _ => rfl) (fun _ => hb) h4 h5 h6 (by simp only [left_false, left_true] at hf ⊢; omega)
        · refine (span_bad A1 n c1 b k w hb hle hm b0 b1).mono ?_
          rintro e w' ⟨rfl, rfl⟩
          show Q (Exit.panic (Fault (outE n b k))) _ _
          rw [copyE_left hb]
          exact hQ _
      | 4, _ =>
        obtain rfl : cp12 = o := by injection ho
        simp at g1
        subst g1
        refine wpOp_at (o := cp12) rfl rfl ?_
        generalize hK : wpAny Try.prog Region.Mode.any copyOps Q fuel _ = K
        simp [Oper.wp, cp12, go_sem, hp]
        subst hK
        exact ih l0 l1 l2 l3 true l5 l6 y8 y9 y10 y11 (.slice A n c) y13 y14 y15 y16 h0 h1 h2 h3 (fun _ => rfl) h5 h6 (by simp only [left_false, left_true] at hf ⊢; omega)
      | 5, _ =>
        obtain rfl : cp13 = o := by injection ho
        simp at g1
        subst g1
        refine wpOp_at (o := cp13) rfl rfl ?_
        generalize hK : wpAny Try.prog Region.Mode.any copyOps Q fuel _ = K
        simp [Oper.wp, cp13, go_sem, hs]
        subst hK
        exact ih l0 l1 l2 l3 l4 true l6 y8 y9 y10 y11 y12 (.int .i64 a) y14 y15 y16 h0 h1 h2 h3 h4 (fun _ => rfl) h6 (by simp only [left_false, left_true] at hf ⊢; omega)
      | 6, _ =>
        obtain rfl : cp14 = o := by injection ho
        simp at g1
        subst g1
        refine wpOp_at (o := cp14) rfl rfl ?_
        generalize hK : wpAny Try.prog Region.Mode.any copyOps Q fuel _ = K
        simp [Oper.wp, cp14, go_sem, hr]
        subst hK
        exact ih l0 l1 l2 l3 l4 l5 true y8 y9 y10 y11 y12 y13 (.int .i64 k) y15 y16 h0 h1 h2 h3 h4 h5 (fun _ => rfl) (by simp only [left_false, left_true] at hf ⊢; omega)
      | 7, _ =>
        obtain rfl : cp15 = o := by injection ho
        simp [cp15, Region.binds] at hdep
        obtain ⟨d4, d5, d6, d3⟩ := hdep
        rw [h4 d4, h5 d5, h6 d6]
        have hb : outE n a k ≠ 0 := by
          rcases hE with h | h
          · exact absurd (h3 d3) h
          · exact h
        refine wpOp_at (o := cp15) rfl rfl ?_
        generalize hK : wpAny Try.prog Region.Mode.any copyOps Q fuel _ = K
        simp [Oper.wp, cp15, go_sem]
        refine (span_bad A n c a k w hb hleA hmA a0 a1).mono ?_
        rintro e w' ⟨rfl, rfl⟩
        show Q (Exit.panic (Fault (outE n a k))) _ _
        rw [copyE_right hb]
        exact hQ _
      | 8, _ =>
        obtain rfl : cp16 = o := by injection ho
        simp [cp16, Region.binds] at hdep

theorem copyIn_bad (A : Option Addr) (n c : Nat) (f : Nat → Int) (a b k : Int) (p q r s : Nat) (w : World) (h : Arr w w.heap.size A n c f) (hn : n ≤ 1048576) (hE : outE n b k ≠ 0 ∨ outE n a k ≠ 0)
    (a0 : -9223372036854775808 ≤ a) (a1 : a ≤ 9223372036854775807) (b0 : -9223372036854775808 ≤ b) (b1 : b ≤ 9223372036854775807)
    (hp : w.cell? ⟨p, 0, none⟩ = some (.slice A n c)) (hq : w.cell? ⟨q, 0, none⟩ = some (.int .i64 b)) (hr : w.cell? ⟨r, 0, none⟩ = some (.int .i64 k)) (hs : w.cell? ⟨s, 0, none⟩ = some (.int .i64 a)) :
    Calls Try.prog 25 #[.pointer (some ⟨p, 0, none⟩), .pointer (some ⟨q, 0, none⟩), .pointer (some ⟨r, 0, none⟩), .pointer (some ⟨s, 0, none⟩)] w (Fails (copyE n a b k) w.heap.size w) := by
  have HA := Lib.hid h
  have lp := cell_lt hp
  have lq := cell_lt hq
  have lr := cell_lt hr
  have ls := cell_lt hs
  have hleA := h.1
  have hmA := h.2.1
  have HE := Lib.hid hE
  clear h hE
  go_enter Try.func25, Try.ntmps25
  go_wp2_with fail
  refine (clone_any A n c f w HA.out hn).mono ?_
  rintro e w1 ⟨A1, c1, rfl, ho, hb⟩
  have hp1 : w1.cell? ⟨p, 0, none⟩ = some (.slice A n c) := (hb.cell (p := ⟨p, 0, none⟩) lp).trans hp
  have hq1 : w1.cell? ⟨q, 0, none⟩ = some (.int .i64 b) := (hb.cell (p := ⟨q, 0, none⟩) lq).trans hq
  have hr1 : w1.cell? ⟨r, 0, none⟩ = some (.int .i64 k) := (hb.cell (p := ⟨r, 0, none⟩) lr).trans hr
  have hs1 : w1.cell? ⟨s, 0, none⟩ = some (.int .i64 a) := (hb.cell (p := ⟨s, 0, none⟩) ls).trans hs
  have HB := Lib.hid hb.drew
  have hle := ho.le
  have hm := ho.2.1
  have hcA : A1 = none → c1 = 0 := ho.arr.2.2.1
  have HC := Lib.hid hcA
  clear ho hb hp hq hr hs hcA
  go_wp2_with fail
  refine wp_region_any (by kernel_rfl) ?_
  exact copy_dead (w := w1.drew) hp1 hq1 hr1 hs1 hle hm HC.out hleA hmA a0 a1 b0 b1 HE.out (fun t => ⟨rfl, rfl, HB.out⟩) 9 false false false false false false false undef undef undef undef undef undef undef undef undef
    (fun h => by cases h) (fun h => by cases h) (fun h => by cases h) (fun h => by cases h) (fun h => by cases h) (fun h => by cases h) (fun h => by cases h) (by decide)
end Go.Proofs.Ythecjlglcnpniaa
