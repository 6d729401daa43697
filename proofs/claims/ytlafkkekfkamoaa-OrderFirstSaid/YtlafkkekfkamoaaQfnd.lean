/-
  Where increments are found in belts: IndexFunc with indexOf's closure, position, Find, isBelt, Oldest, Youngest.
-/
import Derived.Test.YtlafkkekfkamoaaQwrd
import Derived.Test.YtlafkkekfkamoaaQsnd
namespace Go.Proofs.Ytlafkkekfkamoaa
open Go.RowKit
set_option maxRecDepth 100000
set_option linter.unusedVariables false

theorem nth_of {α : Type} {l : List α} {j : Nat} (h : j < l.length) : ∃ x, l[j]? = some x := ⟨l[j], List.getElem?_eq_getElem h⟩

/-- Where an increment with this number stands in a queue, if it does. -/
def IdxP (q : List IncR) (x k : Int) : Prop := (k = -1 ∧ ∀ i ∈ q, i.sq ≠ x) ∨ ∃ (t : Nat) (i : IncR), k = t ∧ q[t]? = some i ∧ i.sq = x

/-- Where an increment with this number stands in belts, if it does. -/
def PosP (Q : List (List IncR)) (x b k : Int) (f : Bool) : Prop := (b = 0 ∧ k = 0 ∧ f = false ∧ ¬ HasQ Q x) ∨ ∃ (s t : Nat) (q : List IncR) (i : IncR), b = s ∧ k = t ∧ f = true ∧ Q[s]? = some q ∧ q[t]? = some i ∧ i.sq = x
theorem PosP.has {Q : List (List IncR)} {x b k : Int} {f : Bool} (h : PosP Q x b k f) : f = true ↔ HasQ Q x := by
  rcases h with ⟨_, _, rfl, h⟩ | ⟨s, t, q, i, _, _, rfl, h1, h2, h3⟩
  · exact ⟨fun e => (by cases e), fun e => absurd e h⟩
  · exact ⟨fun _ => ⟨q, List.mem_iff_getElem?.2 ⟨s, h1⟩, i, List.mem_iff_getElem?.2 ⟨t, h2⟩, h3⟩, fun _ => rfl⟩

def PosOf (Q : List (List IncR)) (x : Int) (w : World) (e : Ending) (w' : World) : Prop := (∃ (b k : Int) (f : Bool), e = .returned (.tuple #[.int .i64 b, .int .i64 k, .bool f]) ∧ PosP Q x b k f) ∧ Below w.heap.size w w'

/-- An increment as a value; the empty one. -/
def IncR.v (i : IncR) : Value := .agg #[.int .i64 i.sq, .int .i64 i.bt, .int .i64 i.fi, .int .i64 i.la, .int .i64 i.wo]
def inc0 : IncR := ⟨0, 0, 0, 0, 0⟩
/-- An increment and whether there is one. -/
def GivesI (o : Option IncR) (w : World) (e : Ending) (w' : World) : Prop := e = .returned (.tuple #[(o.getD inc0).v, .bool o.isSome]) ∧ Below w.heap.size w w'

def FindOf (Q : List (List IncR)) (x : Int) (w : World) (e : Ending) (w' : World) : Prop := ∃ i : IncR, ∃ f : Bool, e = .returned (.tuple #[i.v, .bool f]) ∧ (f = true ↔ HasQ Q x) ∧ Below w.heap.size w w'

/-- Whether b is the index of a belt. -/
def isBQ (n : Nat) (b : Int) : Bool := decide (0 ≤ b) && decide (b < n)
theorem isBelt11_any (A : Option Addr) (c n : Nat) (b : Int) (w : World) :
    Calls Try.prog 36 #[.slice A n c, .int .i64 b] w fun e w' => e = .returned (.bool (isBQ n b)) ∧ w = w' := by
  by_cases h1 : 0 ≤ b
  · by_cases h2 : b < n
    all_goals
      go_enter Try.func36, Try.ntmps36
      go_wp2
      go_ret
      exact ⟨ret_bool (by simp [isBQ]; omega), rfl⟩
  · go_enter Try.func36, Try.ntmps36
    go_wp2
    go_ret
    exact ⟨ret_bool (by simp [isBQ]; omega), rfl⟩

/-- The first, the last increment of a belt. -/
def oldV (Q : List (List IncR)) (b : Nat) : Option IncR := (Q[b]?).bind fun q => q.head?
def youV (Q : List (List IncR)) (b : Nat) : Option IncR := (Q[b]?).bind fun q => q.getLast?

set_option maxHeartbeats 1000000 in
theorem oldest_any (A : Option Addr) (c : Nat) (Q : List (List IncR)) (b : Nat) (w : World) (hQ : QArr w (Lt w.heap.size) A c Q) (hb : b < Q.length) :
    Calls Try.prog 27 #[.slice A Q.length c, .int .i64 b] w (GivesI (oldV Q b) w) := by
  obtain ⟨q, hq⟩ := nth_of hb
  obtain ⟨U, hU⟩ : ∃ U, U = w.alloc (.cells #[.int .i64 0, .int .i64 0, .int .i64 0, .int .i64 0, .int .i64 0] 24) := ⟨_, rfl⟩
  have BI := (show Blk U w.heap.size 24 #[.int .i64 0, .int .i64 0, .int .i64 0, .int .i64 0, .int .i64 0] by rw [hU]; exact Blk.new _ _ _)
  have HBU : Hid (Below w.heap.size w U) := by rw [hU]; exact (Below.refl _ _).alloc (Nat.le_refl _) _
  have HQ := Lib.hid (hQ.next HBU.out)
  have HU := Lib.hid hU
  have hbl : isBQ Q.length b = true := by simp [isBQ]; omega
  have HBL := Lib.hid hbl
  have hb2 : 0 ≤ (b : Int) ∧ (b : Int) < Q.length := by omega
  have f0 := BI.frozen 0
  have f1 := BI.frozen 1
  have f2 := BI.frozen 2
  have f3 := BI.frozen 3
  have f4 := BI.frozen 4
  have p0 := BI.cell 0
  have p1 := BI.cell 1
  have p2 := BI.cell 2
  have p3 := BI.cell 3
  have p4 := BI.cell 4
  simp at p0 p1 p2 p3 p4
  have zi : w.heap.size < U.heap.size := BI.lt
  obtain ⟨b1, o, A', c', rfl, hP, hbz, c0, hL⟩ := HQ.out.at_ hq
  have hm := hL.2.1
  have hm' := hL.1
  simp only [maxLen] at hm
  have HL := Lib.hid hL
  have HV := Lib.hid (show oldV Q b = q.head? by simp [oldV, hq])
  clear hQ hU BI hq hbl hP hL
  unfold GivesI
  rw [HV.out]
  by_cases h0 : q.length = 0
  · have hqe : q = [] := List.length_eq_zero_iff.1 h0
    subst hqe
    have hb0 : (((([] : List IncR).length : Nat) : Int) == 0) = true := by simp
    clear h0 hm'
    go_enter Try.func27, Try.ntmps27
    go_wp2_with (go_at_call 36; rw [← HU.out]; refine (isBelt11_any _ c Q.length b U).mono ?_; rintro e w1 ⟨rfl, rfl⟩; rw [HBL.out])
    refine bodyPost_ret (v := .tuple #[inc0.v, .bool false]) (by simp [results, Try.results27, go_sem, inc0, IncR.v, p0, p1, p2, p3, p4]) rfl ⟨by simp, below_put5 HBU.out (Nat.le_refl _) _ _ _ _ _⟩
  · have hb0 : ((q.length : Int) == 0) = false := by simp only [beq_eq_false_iff_ne]; omega
    obtain ⟨i, hi⟩ := nth_of (show 0 < q.length by omega)
    have HI := Lib.hid (show q.head? = some i by rw [← hi]; cases q <;> simp)
    obtain ⟨b', o', rfl, hP', hbz', d0, d1, d2, d3, d4⟩ := HL.out.at_ hi
    have hz : (0 : Int) < q.length := by omega
    simp at d0 d1 d2 d3 d4
    clear h0 hm hm' hi hP'
    go_enter Try.func27, Try.ntmps27
    go_wp2_with (go_at_call 36; rw [← HU.out]; refine (isBelt11_any _ c Q.length b U).mono ?_; rintro e w1 ⟨rfl, rfl⟩; rw [HBL.out])
    
    
    refine bodyPost_ret (v := .tuple #[i.v, .bool true]) (by simp [results, Try.results27, go_sem, IncR.v, p0, p1, p2, p3, p4]) rfl ⟨by rw [HI.out]; rfl, below_put5 HBU.out (Nat.le_refl _) _ _ _ _ _⟩

end Go.Proofs.Ytlafkkekfkamoaa
