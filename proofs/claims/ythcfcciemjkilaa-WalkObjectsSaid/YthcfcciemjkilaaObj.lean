/-
  Contracts of package object's own functions: clone, place, decode, refAt, dataAt, locate.
-/
import Derived.Test.YthcfcciemjkilaaSet
import Derived.Deep.RegionHeld3
namespace Go.Proofs.Ythcfcciemjkilaa
open Go.RowKit
set_option maxRecDepth 100000
set_option linter.unusedVariables false

/-- A decoded object, and the zero one. -/
def ObjV (s : Int) (A : Option Addr) (nw c : Nat) (A' : Option Addr) (n c' : Nat) (a r d : Int) : Value := .agg #[.int .i64 s, .slice A nw c, .slice A' n c', .int .i64 a, .int .i64 r, .int .i64 d]
def zObj : Value := .agg #[.int .i64 0, .slice none 0 0, .slice none 0 0, .int .i64 0, .int .i64 0, .int .i64 0]
theorem below_put6 {B b : Nat} {w' w : World} (h : Below B w' w) (hb : B ≤ b) (v0 v1 v2 v3 v4 v5 : Value) :
    Below B w' ((((((w.setCell ⟨b, 0, none⟩ v0).setCell ⟨b, 1, none⟩ v1).setCell ⟨b, 2, none⟩ v2).setCell ⟨b, 3, none⟩ v3).setCell ⟨b, 4, none⟩ v4).setCell ⟨b, 5, none⟩ v5) :=
  (((below_put3 h hb v0 v1 v2).setCell (p := ⟨b, 3, none⟩) hb v3).setCell (p := ⟨b, 4, none⟩) hb v4).setCell (p := ⟨b, 5, none⟩) hb v5

def PlaceOut (s : Int) (A : Option Addr) (nw c : Nat) (A' : Option Addr) (n c' : Nat) (wd : Nat → Int) (F : Nat → Fr) (a r d : Int) (w : World) (e : Ending) (w' : World) : Prop :=
  (∃ y : Int, stpE s nw wd n F a (r + d) = y ∧ y ≠ 0 ∧ e = .returned (.tuple #[zObj, .int .i64 y]) ∧ Below w.heap.size w w') ∨
  (stpE s nw wd n F a (r + d) = 0 ∧ e = .returned (.tuple #[ObjV s A nw c A' n c' a r d, .int .i64 0]) ∧ Below w.heap.size w w')

set_option maxHeartbeats 1000000 in
theorem objPlace_any (s : Int) (A A' : Option Addr) (nw c n c' : Nat) (wd : Nat → Int) (F : Nat → Fr) (a r d : Int) (w : World) (hA : Arr w w.heap.size A nw c wd) (hT : Tab w w.heap.size A' n c' F)
    (a0 : -9223372036854775808 ≤ a) (a1 : a ≤ 9223372036854775807) (r0 : 0 ≤ r) (r1 : r ≤ 15) (d0 : 0 ≤ d) (d1 : d ≤ 32) :
    Calls Try.prog 72 #[.agg #[.int .i64 s, .slice A nw c, .slice A' n c'], .int .i64 a, .int .i64 r, .int .i64 d] w (PlaceOut s A nw c A' n c' wd F a r d w) := by
  obtain ⟨U, hU⟩ : ∃ U, U = (w.alloc (.cells #[.int .i64 s, .slice A nw c, .slice A' n c'] 25)).alloc (.cells #[.int .i64 0, .slice none 0 0, .slice none 0 0, .int .i64 0, .int .i64 0, .int .i64 0] 96) := ⟨_, rfl⟩
  have BU : Blk U w.heap.size 25 #[.int .i64 s, .slice A nw c, .slice A' n c'] := by rw [hU]; exact (Blk.new _ _ _).alloc _
  have BR : Blk U (w.heap.size + 1) 96 #[.int .i64 0, .slice none 0 0, .slice none 0 0, .int .i64 0, .int .i64 0, .int .i64 0] := by rw [hU]; exact Blk.newAt _ _ _ _ (by simp)
  have HBU : Hid (Below w.heap.size w U) := by rw [hU]; exact ((Below.refl _ _).alloc (Nat.le_refl _) _).alloc (by simp) _
  have HU := Lib.hid hU
  have c1 := step5_any s A A' nw c n c' wd F a (r + d) U (hA.next HBU.out) (hT.next HBU.out) a0 a1 (by omega) (by omega)
  have p0 := BU.cell 0
  have p1 := BU.cell 1
  have p2 := BU.cell 2
  have pz := BU.lt
  simp at p0 p1 p2
  clear hA hT hU
  by_cases h0 : stpE s nw wd n F a (r + d) = 0
  · rw [h0] at c1
    obtain ⟨v, hv⟩ : ∃ v, v = stpV s nw wd n F a (r + d) := ⟨_, rfl⟩
    rw [← hv] at c1
    have H0 := Lib.hid h0
    clear h0 hv
    go_enter Try.func72, Try.ntmps72
    go_wp2_with fail
    rw [← HU.out]
    refine c1.mono ?_
    rintro e U1 ⟨rfl, hb1⟩
    have BU1 := BU.next hb1
    have BR1 := BR.next hb1
    have HB1 := Lib.hid (below_next HBU.out (Nat.le_refl _) hb1)
    have q0 := BU1.cell 0
    have q1 := BU1.cell 1
    have q2 := BU1.cell 2
    have qz := BU1.lt
    have s0 := BR1.cell 0
    have s1 := BR1.cell 1
    have s2 := BR1.cell 2
    have s3 := BR1.cell 3
    have s4 := BR1.cell 4
    have s5 := BR1.cell 5
    have f0 := BR1.frozen 0
    have f1 := BR1.frozen 1
    have f2 := BR1.frozen 2
    have f3 := BR1.frozen 3
    have f4 := BR1.frozen 4
    have f5 := BR1.frozen 5
    have rz := BR1.lt
    simp at q0 q1 q2 s0 s1 s2 s3 s4 s5
    clear hb1 p0 p1 p2 pz
    go_wp2
    refine bodyPost_ret (v := .tuple #[.agg #[.int .i64 s, .slice A nw c, .slice A' n c', .int .i64 a, .int .i64 r, .int .i64 d], .int .i64 0]) (by simp [results, Try.results72, go_sem, s0, s1, s2, s3, s4, s5]) rfl (.inr ⟨H0.out, rfl, below_put6 HB1.out (by omega) _ _ _ _ _ _⟩)
  · obtain ⟨y, hy⟩ : ∃ y, y = stpE s nw wd n F a (r + d) := ⟨_, rfl⟩
    obtain ⟨v, hv⟩ : ∃ v, v = stpV s nw wd n F a (r + d) := ⟨_, rfl⟩
    rw [← hv, ← hy] at c1
    rw [← hy] at h0
    have hne : (y != 0) = true := by simpa using h0
    have HY := Lib.hid hy
    have H0 := Lib.hid h0
    clear h0 hv hy
    go_enter Try.func72, Try.ntmps72
    go_wp2_with fail
    rw [← HU.out]
    refine c1.mono ?_
    rintro e U1 ⟨rfl, hb1⟩
    have BR1 := BR.next hb1
    have HB1 := Lib.hid (below_next HBU.out (Nat.le_refl _) hb1)
    have s0 := BR1.cell 0
    have s1 := BR1.cell 1
    have s2 := BR1.cell 2
    have s3 := BR1.cell 3
    have s4 := BR1.cell 4
    have s5 := BR1.cell 5
    have f0 := BR1.frozen 0
    have f1 := BR1.frozen 1
    have f2 := BR1.frozen 2
    have f3 := BR1.frozen 3
    have f4 := BR1.frozen 4
    have f5 := BR1.frozen 5
    have rz := BR1.lt
    simp at s0 s1 s2 s3 s4 s5
    clear hb1 p0 p1 p2 pz
    go_wp2
    refine bodyPost_ret (v := .tuple #[.agg #[.int .i64 0, .slice none 0 0, .slice none 0 0, .int .i64 0, .int .i64 0, .int .i64 0], .int .i64 y]) (by simp [results, Try.results72, go_sem, s0, s1, s2, s3, s4, s5]) rfl (.inl ⟨y, HY.out.symm, H0.out, rfl, below_put6 HB1.out (by omega) _ _ _ _ _ _⟩)

/-! Fields by a finder. -/
def atK (r : Int) (t : Bool) (i : Int) : Int := if t then 1 + i else 1 + r + i
def atN (r d : Int) (t : Bool) : Int := if t then r else d
end Go.Proofs.Ythcfcciemjkilaa
