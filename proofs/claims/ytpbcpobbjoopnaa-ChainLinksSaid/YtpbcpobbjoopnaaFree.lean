/-
  Contracts of package pool: framesOf, members, Free, Used.
-/
import Derived.Test.YtpbcpobbjoopnaaOnes
import Derived.Test.YtpbcpobbjoopnaaPool
import Derived.OwnWalk
import Derived.Laws.AppendOwnNone
namespace Go.Proofs.Ytpbcpobbjoopnaa
open Go.RowKit
set_option maxRecDepth 100000
set_option linter.unusedVariables false

/-- Whether frame f has the owner o. -/
def owB (F : Nat → Fr) (o : Int) (f : Nat) : Bool := decide ((F f).ow = o)
theorem owB_yes {F : Nat → Fr} {o : Int} {f : Nat} (h : (F f).ow = o) : owB F o f = true := decide_eq_true h
theorem owB_no {F : Nat → Fr} {o : Int} {f : Nat} (h : ¬ (F f).ow = o) : owB F o f = false := decide_eq_false h

theorem or_step (p : Nat → Bool) (t : Nat) (h : t < 64) : bits BinOp.or IntKind.u64 ((setP p t : Nat) : Int) (IntKind.u64.wrap (2 ^ t)) = ((setP p t + 2 ^ t : Nat) : Int) := by
  have h1 : 2 ^ t < 18446744073709551616 := Nat.lt_of_lt_of_le (Nat.pow_lt_pow_right (by decide) h) (Nat.le_refl (2 ^ 64))
  have e : IntKind.u64.wrap ((2 : Int) ^ t) = ((2 ^ t : Nat) : Int) := by
    rw [show ((2 : Int) ^ t) = ((2 ^ t : Nat) : Int) by simp, IntKind.wrap_u64]
    generalize 2 ^ t = z at h1
    omega
  rw [e, bits_or_u64_nat _ _ (setP_small p (by omega)) h1, setP_or]

/-- The n numbers of the slice at A (capacity c) are f 0, f 1, ..; the block that holds them lies below B. -/
def Nums (w : World) (B : Nat) (A : Option Addr) (n c : Nat) (f : Nat → Int) : Prop :=
  n ≤ c ∧ c ≤ maxLen ∧ (A = none → c = 0) ∧
    (0 < n → ∃ b o, A = some ⟨b, o, none⟩ ∧ b < B ∧ ∀ j, j < n → w.cell? ⟨b, o + j, none⟩ = some (.int .i64 (f j)))
section
variable {w w' : World} {B base n c : Nat} {A : Option Addr} {f f' : Nat → Int}
theorem Nums.le (h : Nums w B A n c f) : n ≤ c := h.1
theorem Nums.at_ (h : Nums w B A n c f) (k : Nat) (hk : k < n) : ∃ b o, A = some ⟨b, o, none⟩ ∧ b < B ∧ w.cell? ⟨b, o + k, none⟩ = some (.int .i64 (f k)) := by
  obtain ⟨b, o, hA, hb, hc⟩ := h.2.2.2 (by omega)
  exact ⟨b, o, hA, hb, hc k hk⟩
theorem Nums.keep (h : Nums w B A n c f) (hk : ∀ b o, b < B → w'.cell? ⟨b, o, none⟩ = w.cell? ⟨b, o, none⟩) : Nums w' B A n c f := by
  refine ⟨h.1, h.2.1, h.2.2.1, fun hn => ?_⟩
  obtain ⟨b, o, hA, hb, hc⟩ := h.2.2.2 hn
  exact ⟨b, o, hA, hb, fun j hj => (hk _ _ hb).trans (hc j hj)⟩
theorem Nums.below (h : Nums w B A n c f) (hb : Below B w w') : Nums w' B A n c f := h.keep fun _ _ hp => hb.cell hp
theorem Nums.more {B' : Nat} (h : Nums w B A n c f) (hB : B ≤ B') : Nums w B' A n c f := by
  refine ⟨h.1, h.2.1, h.2.2.1, fun hn => ?_⟩
  obtain ⟨b, o, hA, hb, hc⟩ := h.2.2.2 hn
  exact ⟨b, o, hA, by omega, hc⟩
theorem Nums.next (h : Nums w w.heap.size A n c f) (hb : Below w.heap.size w w') : Nums w' w'.heap.size A n c f := (h.below hb).more hb.size
theorem Nums.congr (h : Nums w B A n c f) (e : ∀ j, j < n → f j = f' j) : Nums w B A n c f' := by
  refine ⟨h.1, h.2.1, h.2.2.1, fun hn => ?_⟩
  obtain ⟨b, o, hA, hb, hc⟩ := h.2.2.2 hn
  exact ⟨b, o, hA, hb, fun j hj => by rw [← e j hj]; exact hc j hj⟩
theorem Nums.nil (w : World) (B : Nat) (f : Nat → Int) : Nums w B none 0 0 f := ⟨by simp, by simp, fun _ => rfl, fun h => absurd h (by omega)⟩
end
def numL (l : List Nat) : List Value := l.map fun (x : Nat) => .int .i64 (x : Int)
/-- A list's members as a function of the place. -/
def numF (l : List Nat) (j : Nat) : Int := ((l.getD j 0 : Nat) : Int)
theorem nums_of_row {w : World} {base : Nat} {v : Value} {n : Nat} {l : List Nat} (h : w.ownsRow base 3 1 v n (numL l)) :
    ∃ A c, v = .slice A n c ∧ Nums w w.heap.size A n c (numF l) ∧ n = l.length := by
  obtain ⟨hl, h⟩ := h
  have hn : n = l.length := by simpa [numL] using hl.symm
  rcases h with ⟨rfl, rfl⟩ | ⟨g, cap, cur, rfl, hb, hg, hc, hm, hs, ht⟩
  · exact ⟨none, 0, rfl, Nums.nil _ _ _, hn⟩
  · refine ⟨some ⟨g, 0, none⟩, cap, rfl, ⟨hc, hm, (fun e => by cases e), fun _ => ⟨g, 0, rfl, blk_lt hg, fun j hj => ?_⟩⟩, hn⟩
    rw [cell_row hg, Nat.zero_add]
    have h0 : (numL l)[j]? = some (.int .i64 (numF l j)) := by
      have : j < l.length := by omega
      simp [numL, numF, this]
    rw [← ht, List.getElem?_take, if_pos (by omega)] at h0
    simpa using h0
/-- A slice of the numbers of a list, made by the call. -/
def GivesNums (l : List Nat) (w : World) (e : Ending) (w' : World) : Prop :=
  ∃ A c, e = .returned (.slice A l.length c) ∧ Nums w' w'.heap.size A l.length c (numF l) ∧ Below w.heap.size w w'
/-- The same, and what is more: its block is new. -/
def GivesNew (l : List Nat) (w : World) (e : Ending) (w' : World) : Prop :=
  ∃ A c, e = .returned (.slice A l.length c) ∧ Nums w' w'.heap.size A l.length c (numF l) ∧ Below w.heap.size w w' ∧ ∀ x, A = some x → w.heap.size ≤ x.block
theorem GivesNew.nums {l : List Nat} {w w' : World} {e : Ending} (h : GivesNew l w e w') : GivesNums l w e w' := by
  obtain ⟨A, c, h1, h2, h3, _⟩ := h
  exact ⟨A, c, h1, h2, h3⟩

def SetRow (F : Nat → Fr) (o : Int) (n : Nat) (w : World) (i v : Value) (wr : World) : Prop :=
  ∃ t : Nat, t ≤ n ∧ i = .int .i64 t ∧ v = .int .u64 (setP (owB F o) t : Nat) ∧ Below w.heap.size w wr

theorem and_step (x : Nat) (h0 : x ≠ 0) (h : x < 18446744073709551616) : bits BinOp.and IntKind.u64 (x : Int) ((x : Int) - 1) = ((x &&& (x - 1) : Nat) : Int) := by
  have e : ((x : Int) - 1) = ((x - 1 : Nat) : Int) := by omega
  rw [e, bits_and_u64_nat _ _ h (by omega)]

/-- One round of the walk through a set's members: the least of the rest. -/
theorem rest_round (p : Nat → Bool) {t n : Nat} (hn : n ≤ 64) (h : setP (fromP p t) n ≠ 0) :
    ∃ i, t ≤ i ∧ i < n ∧ Lib.ctz 64 (setP (fromP p t) n) = i ∧ setP (fromP p t) n &&& (setP (fromP p t) n - 1) = setP (fromP p (i + 1)) n ∧
      lstP p (i + 1) = lstP p t ++ [i] ∧ cntP p (i + 1) = cntP p t + 1 := by
  obtain ⟨i, h1, h2, h3, h4⟩ := lowest p h
  obtain ⟨y, e1, e2⟩ := setP_split p h1 h3 h4 h2
  refine ⟨i, h1, h2, ?_, ?_, lstP_next p h1 h3 h4, cntP_next p h1 h3 h4⟩
  · rw [e1]; exact ctz_pow i y (by omega)
  · rw [e1, e2]; exact and_pred i y

def MemRow (p : Nat → Bool) (n : Nat) (w : World) (v r : Value) (wr : World) : Prop :=
  ∃ t : Nat, t ≤ n ∧ r = .int .u64 (setP (fromP p t) n : Nat) ∧ wr.ownsRow w.heap.size 3 1 v (cntP p t) (numL (lstP p t)) ∧ Below w.heap.size w wr

def restOf (v : Value) : Nat := (intOf v).toNat

/-- The frames of an owner, ascending. -/
def ownL (F : Nat → Fr) (o : Int) (n : Nat) : List Nat := lstP (owB F o) n

end Go.Proofs.Ytpbcpobbjoopnaa
