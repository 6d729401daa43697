/-
  The deck of numbers (as s3/XDeck has it, without the space).
-/
import Derived.Test.YtkjmokaahpkahaaMBase
import Derived.BigQuiet




namespace Go.Proofs.Ytkjmokaahpkahaa
open Go.RowKit
set_option maxRecDepth 100000
set_option linter.unusedVariables false

/-- A deck at block dk: a list of numbers from blocks below it, and a place in it. -/
def DeckP (w : World) (dk : Nat) : Prop := ∃ (A : Option Addr) (n c p : Nat), Blk w dk 50 #[.slice A n c, .int .i64 p] ∧ p ≤ n ∧ n ≤ c ∧ c ≤ maxLen ∧
  ∀ j, j < n → ∃ b o v, A = some ⟨b, o, none⟩ ∧ b < dk ∧ w.cell? ⟨b, o + j, none⟩ = some (.int .i64 v) ∧ -9223372036854775808 ≤ v ∧ v ≤ 9223372036854775807

theorem DeckP.lt {w : World} {dk : Nat} (h : DeckP w dk) : dk < w.heap.size := by
  obtain ⟨A, n, c, p, hb, _⟩ := h
  exact hb.lt

theorem DeckP.next {w w' : World} {dk : Nat} (h : DeckP w dk) (hb : Below w.heap.size w w') : DeckP w' dk := by
  have hl := h.lt
  obtain ⟨A, n, c, p, h1, h2, h3, h4, h5⟩ := h
  refine ⟨A, n, c, p, h1.next hb, h2, h3, h4, fun j hj => ?_⟩
  obtain ⟨b, o, v, e, hlt, hc, hv⟩ := h5 j hj
  exact ⟨b, o, v, e, hlt, by rw [hb.cell (by show b < _; omega)]; exact hc, hv⟩

def NextOf (w : World) (dk : Nat) (n : Int) (e : Ending) (w' : World) : Prop := ∃ v : Int, e = .returned (.int .i64 v) ∧ 0 ≤ v ∧ v < n ∧ DeckP w' dk ∧ w.grownBy w' (some dk)

theorem next_any (dk : Nat) (n : Int) (w : World) (hn : 1 ≤ n) (hn' : n ≤ 9223372036854775807) (hd : DeckP w dk) :
    Calls Try.prog 22 #[.pointer (some ⟨dk, 0, none⟩), .int .i64 n] w (NextOf w dk n) := by
  have hd0 := hd
  obtain ⟨A, m, c, p, hb, hp0, hmc, hcm, hl⟩ := hd
  have q0 := hb.cell 0
  have q1 := hb.cell 1
  have z1 := hb.frozen 1
  have hmx : maxLen = 9223372036854775807 := by decide
  simp at q0 q1
  by_cases hp : m ≤ p
  · go_enter Try.func22, Try.ntmps22
    go_wp2_with fail
    go_quiet (fail)
    go_wp2_with fail
    go_ret
    exact ⟨0, rfl, by omega, by omega, hd0, turn_below (below_drewN (Below.refl _ w) nq)⟩
  · have hp' : p < m := by omega
    obtain ⟨b, o, v, e, hlt, hc, hv0, hv1⟩ := hl p hp'
    subst e
    have hdl := hb.lt
    go_enter Try.func22, Try.ntmps22
    go_wp2_with fail
    go_quiet (fail)
    have s1 : IntKind.i64.wrap ((p : Int) + 1) = (p : Int) + 1 := IntWalk.i64_in _ (by omega)
    go_wp2_with fail
    obtain ⟨V, hV⟩ : ∃ V, V = (w.drewN nq).setCell ⟨dk, 1, none⟩ (.int .i64 ((p : Int) + 1)) := ⟨_, rfl⟩
    have hbd : Blk (w.drewN nq) dk 50 #[.slice (some ⟨b, o, none⟩) m c, .int .i64 p] := hb
    have BX : Blk V dk 50 #[.slice (some ⟨b, o, none⟩) m c, .int .i64 ((p : Int) + 1)] := by rw [hV]; exact hbd.set_ 1 _
    have hBV : w.grownBy V (some dk) := by rw [hV]; exact turn_set (turn_below (below_drewN (Below.refl _ w) nq)) 1 _
    have HC : V.cell? ⟨b, o + p, none⟩ = some (.int .i64 v) := by rw [hV, World.cell?_setCell_other _ _ _ _ (by intro e; injection e; omega)]; exact hc
    rw [← hV]
    clear q0 q1 z1 hb hbd hc
    have HV := Lib.hid hV
    clear hV
    have q0 := BX.cell 0
    have q1 := BX.cell 1
    simp at q0 q1
    have s2 : IntKind.i64.wrap ((p : Int) + 1 - 1) = (p : Int) := by rw [IntWalk.i64_in _ (by omega)]; omega
    have md := fun W => (mod_any v n hn hn' hv0 hv1 W)
    go_quiet ((go_at_call 16; exact Calls.quiet_of_same ((md _).mono fun _ _ h => ⟨h.1, h.2.symm⟩)))
    go_wp2_with fail
    go_ret
    refine ⟨v % n, rfl, Int.emod_nonneg _ (by omega), Int.emod_lt_of_pos _ (by omega), ?_, turn_next hBV (below_drewN (Below.refl _ V) nq)⟩
    have hk : ∀ b' o', b' < dk → V.cell? ⟨b', o', none⟩ = w.cell? ⟨b', o', none⟩ := by
      intro b' o' h'
      rw [HV.out, World.cell?_setCell_other _ _ _ _ (by intro e; injection e; omega)]
      rfl
    refine ⟨some ⟨b, o, none⟩, m, c, p + 1, BX, hp', hmc, hcm, fun j hj => ?_⟩
    obtain ⟨b1, o1, v1, e1, l1, c1, r1⟩ := hl j hj
    exact ⟨b1, o1, v1, e1, l1, (hk b1 _ l1).trans c1, r1⟩

/-- A list of numbers in blocks below B. -/
def ListP (w : World) (B : Nat) (A : Option Addr) (n c : Nat) : Prop := n ≤ c ∧ c ≤ maxLen ∧ ∀ j, j < n → ∃ b o v, A = some ⟨b, o, none⟩ ∧ b < B ∧ w.cell? ⟨b, o + j, none⟩ = some (.int .i64 v) ∧ -9223372036854775808 ≤ v ∧ v ≤ 9223372036854775807

def DeckOf (w : World) (e : Ending) (w' : World) : Prop := e = .returned (.pointer (some ⟨w.heap.size, 0, none⟩)) ∧ DeckP w' w.heap.size ∧ Below w.heap.size w w' ∧ w'.heap.size = w.heap.size + 1

theorem deck_any (A : Option Addr) (n c : Nat) (w : World) (h : ListP w w.heap.size A n c) :
    Calls Try.prog 10 #[.slice A n c] w (DeckOf w) := by
  go_enter Try.func10, Try.ntmps10
  go_wp2_with fail
  go_ret
  obtain ⟨h1, h2, h3⟩ := h
  have hb : Below w.heap.size w (w.alloc (.cells #[.slice A n c, .int .i64 0] 50)) := (Below.refl _ w).alloc (Nat.le_refl _) _
  refine ⟨rfl, ⟨A, n, c, 0, Blk.new _ _ _, Nat.zero_le _, h1, h2, fun j hj => ?_⟩, hb, by simp⟩
  obtain ⟨b, o, v, e, hl, hc, hv⟩ := h3 j hj
  exact ⟨b, o, v, e, hl, by rw [hb.cell hl]; exact hc, hv⟩

end Go.Proofs.Ytkjmokaahpkahaa
