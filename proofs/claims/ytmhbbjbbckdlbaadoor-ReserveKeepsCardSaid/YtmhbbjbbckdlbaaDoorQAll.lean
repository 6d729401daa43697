/-
  When belts are sound, as plain mathematics: the frames of different increments, counted.
  Where increments are found in belts: IndexFunc with indexOf's closure, position, Find, isBelt, Oldest, Youngest.
  Valid of package belt: isQueueOf, haveAllFrames.
  Valid of the reference of layer 11: Sound.
  Belts of the call's own, each row in a block of its own; copies: slices.Clone, clone of package belt, Copy of the reference.
  slices.Delete of one increment of a row of the call's own.
  append to a row of the call's own, with where the row lies behind it.
  Add and Remove of package belt, where they go through.
  Remove of package belt, where it goes through; Slight.
  Queue of the statements' maker: increments as belts. (Made by mkqque-s11.py.)
  Copy and Remove of the reference of layer 11. (Made by mkqcop-s11.py.)
  The statements' own check of layer 11: the examples.
  The increments of a made space, as belts: plain mathematics.
  The walk of BeltFrames.
  Rows of integers that a law keeps beside belts: a row of rows, each in a block of its own.
  All increments of belts in one row; the first one; two rows compared.
-/
import Derived.Test.YtmhbbjbbckdlbaaDoorMSpace
import Derived.Test.YtmhbbjbbckdlbaaDoorBap
import Derived.Test.YtmhbbjbbckdlbaaDoorQwrd
import Derived.BigQuiet
import Derived.Deep.QuietTactic
import Derived.Deep.RegionHeld3
import Derived.Lib.SliceRun
import Derived.Deep.RegionLaw
import Derived.Deep.RegionHeld2
import Derived.Laws.AppendOwnNone
import Derived.Laws.StructEq
import Derived.RegionTactic
namespace Go.Proofs.YtmhbbjbbckdlbaaDoor
open Go.RowKit
set_option maxRecDepth 100000
set_option linter.unusedVariables false

def FitI (k n nw : Nat) (F : Nat → Fr) (i : IncR) : Prop := FitsQ k n nw F i.sq i.bt i.fi i.la i.wo
/-- The t-th increment of belt b is as it should be. -/
def OkB (k n nw : Nat) (F : Nat → Fr) (b : Nat) (q : List IncR) (t : Nat) (i : IncR) : Prop :=
  i.bt = b ∧ 0 < i.wo ∧ FitI k n nw F i ∧ ∀ j, 0 < t → q[t - 1]? = some j → j.sq < i.sq
def QueP (k n nw : Nat) (F : Nat → Fr) (b : Nat) (q : List IncR) : Prop := ∀ (t : Nat) (i : IncR), q[t]? = some i → OkB k n nw F b q t i
def BelP (k n nw : Nat) (F : Nat → Fr) (Q : List (List IncR)) : Prop := 1 ≤ Q.length ∧ Q.length ≤ 4 ∧ ∀ (b : Nat) (q : List IncR), Q[b]? = some q → QueP k n nw F b q
/-- Whether some increment has this number. -/
def HasQ (Q : List (List IncR)) (x : Int) : Prop := ∃ q ∈ Q, ∃ i ∈ q, i.sq = x
def SndP (k n nw : Nat) (F : Nat → Fr) (Q : List (List IncR)) : Prop := BelP k n nw F Q ∧ ∀ f, f < n → (F f).ow = -1 ∨ HasQ Q (F f).ow

theorem QueP.asc {k n nw : Nat} {F : Nat → Fr} {b : Nat} {q : List IncR} (h : QueP k n nw F b q) : ∀ {t u : Nat} {i j : IncR}, t < u → q[t]? = some i → q[u]? = some j → i.sq < j.sq := by
  intro t u
  induction u with
  | zero => intro i j h1; omega
  | succ u ih =>
    intro i j h1 hi hj
    have hu : u < q.length := by have := (List.getElem?_eq_some_iff.1 hj).1; omega
    obtain ⟨x, hx⟩ : ∃ x, q[u]? = some x := ⟨q[u], List.getElem?_eq_getElem hu⟩
    have h2 := (h (u + 1) j hj).2.2.2 x (by omega) (by simpa using hx)
    rcases (by omega : t = u ∨ t < u) with e | e
    · subst e
      rw [hi] at hx
      injection hx with hx
      subst hx
      exact h2
    · have := ih e hi hx
      omega
theorem fit_belt {k n nw : Nat} {F : Nat → Fr} {i j : IncR} (hv : FV F n) (hi : FitI k n nw F i) (hj : FitI k n nw F j) (h0 : 0 < i.wo) (h1 : 0 < j.wo) (he : i.sq = j.sq) : i.bt = j.bt := by
  have h2 := fits_stamp hv hi (fun e => by omega)
  obtain ⟨p, _, hp, ho, hs, _⟩ := fits_first hj h1
  have h3 := h2 p hp (by omega)
  omega
theorem fit_sq {k n nw : Nat} {F : Nat → Fr} {i : IncR} (hi : FitI k n nw F i) : 0 ≤ i.sq := hi.1.1
theorem bel_nodup {k n nw : Nat} {F : Nat → Fr} {Q : List (List IncR)} (hv : FV F n) (h : BelP k n nw F Q) : (Q.flatten.map fun i => i.sq).Nodup := by
  rw [List.Nodup, List.pairwise_map, List.pairwise_flatten]
  constructor
  · intro q hq
    obtain ⟨b, hb⟩ := List.mem_iff_getElem?.1 hq
    refine List.pairwise_iff_getElem.2 fun t u ht hu htu => ?_
    have := (h.2.2 b q hb).asc htu (List.getElem?_eq_getElem ht) (List.getElem?_eq_getElem hu)
    omega
  · refine List.pairwise_iff_getElem.2 fun b c hb hc hbc x hx y hy e => ?_
    obtain ⟨t, ht⟩ := List.mem_iff_getElem?.1 hx
    obtain ⟨u, hu⟩ := List.mem_iff_getElem?.1 hy
    obtain ⟨h1, h2, h3, _⟩ := h.2.2 b _ (List.getElem?_eq_getElem hb) t x ht
    obtain ⟨h4, h5, h6, _⟩ := h.2.2 c _ (List.getElem?_eq_getElem hc) u y hu
    have := fit_belt hv h3 h6 h2 h5 e
    omega

/-- How many of the first frames have an owner of the list; how many are not free. -/
def cntS (F : Nat → Fr) (S : List Int) : Nat → Nat
  | 0 => 0
  | t + 1 => cntS F S t + (if (F t).ow ∈ S then 1 else 0)
def cntU (F : Nat → Fr) : Nat → Nat
  | 0 => 0
  | t + 1 => cntU F t + (if (F t).ow = -1 then 0 else 1)
theorem cntU_le (F : Nat → Fr) : ∀ t, cntU F t ≤ t
  | 0 => Nat.le_refl _
  | t + 1 => by have := cntU_le F t; simp only [cntU]; split <;> omega
theorem sum_add {α : Type} (f g : α → Nat) : ∀ l : List α, (l.map fun x => f x + g x).sum = (l.map f).sum + (l.map g).sum
  | [] => rfl
  | x :: l => by simp only [List.map_cons, List.sum_cons, sum_add f g l]; omega
theorem sum_one (x : Int) : ∀ S : List Int, S.Nodup → (S.map fun s => if x = s then 1 else 0).sum = if x ∈ S then 1 else 0
  | [], _ => by simp
  | s :: S, h => by
    obtain ⟨h1, h2⟩ := List.nodup_cons.1 h
    simp only [List.map_cons, List.sum_cons, sum_one x S h2, List.mem_cons]
    by_cases e : x = s
    · subst e
      rw [if_pos rfl, if_neg h1, if_pos (.inl rfl)]
    · rw [if_neg e]
      by_cases e2 : x ∈ S
      · rw [if_pos e2, if_pos (.inr e2)]
      · rw [if_neg e2, if_neg (fun h => h.elim e e2)]
theorem sum_cntO (F : Nat → Fr) (S : List Int) (h : S.Nodup) : ∀ t, (S.map fun s => cntO F s t).sum = cntS F S t
  | 0 => by
    simp only [cntO, cntS]
    have : ∀ l : List Int, (l.map fun _ => 0).sum = 0 := by intro l; induction l with
      | nil => rfl
      | cons x l ih => simp [ih]
    exact this S
  | t + 1 => by
    simp only [cntO, cntS]
    rw [sum_add, sum_cntO F S h t, sum_one _ S h]
theorem cntS_U {F : Nat → Fr} {S : List Int} (hS : ∀ s ∈ S, s ≠ -1) : ∀ t, cntS F S t ≤ cntU F t ∧ (cntS F S t = cntU F t ↔ ∀ f, f < t → (F f).ow = -1 ∨ (F f).ow ∈ S)
  | 0 => ⟨Nat.le_refl _, fun _ f hf => absurd hf (by omega), fun _ => rfl⟩
  | t + 1 => by
    obtain ⟨h1, h2⟩ := cntS_U hS t
    simp only [cntS, cntU]
    by_cases e : (F t).ow = -1
    · rw [if_neg (fun h => hS _ h e), if_pos e]
      refine ⟨by omega, fun h f hf => ?_, fun h => ?_⟩
      · rcases (by omega : f = t ∨ f < t) with rfl | hf
        · exact .inl e
        · exact h2.1 (by omega) f hf
      · have := h2.2 (fun f hf => h f (by omega)); omega
    · rw [if_neg e]
      by_cases e2 : (F t).ow ∈ S
      · rw [if_pos e2]
        refine ⟨by omega, fun h f hf => ?_, fun h => ?_⟩
        · rcases (by omega : f = t ∨ f < t) with rfl | hf
          · exact .inr e2
          · exact h2.1 (by omega) f hf
        · have := h2.2 (fun f hf => h f (by omega)); omega
      · rw [if_neg e2]
        refine ⟨by omega, fun h => by omega, fun h => ?_⟩
        rcases h t (by omega) with h | h
        · exact absurd h e
        · exact absurd h e2

/-- The frames that increments need. -/
def ownS (k : Nat) (l : List IncR) : Nat := (l.map fun i => ceilV i.wo.toNat k).sum
theorem ownS_snoc (k : Nat) (l : List IncR) (i : IncR) : ownS k (l ++ [i]) = ownS k l + ceilV i.wo.toNat k := by simp [ownS]
theorem ownS_cnt {k n nw : Nat} {F : Nat → Fr} : ∀ l : List IncR, (∀ i ∈ l, 0 < i.wo ∧ FitI k n nw F i) → ownS k l = ((l.map fun i => i.sq).map fun s => cntO F s n).sum
  | [], _ => rfl
  | i :: l, h => by
    have ih := ownS_cnt l fun x hx => h x (List.mem_cons_of_mem _ hx)
    obtain ⟨h1, h2⟩ := h i (by simp)
    have h3 := h2.2 h1
    simp only [ownS, List.map_cons, List.sum_cons] at ih ⊢
    omega
theorem ownS_le {k n nw : Nat} {F : Nat → Fr} : ∀ l : List IncR, (∀ i ∈ l, 0 < i.wo ∧ FitI k n nw F i) → ownS k l ≤ n * l.length
  | [], _ => by simp [ownS]
  | i :: l, h => by
    have ih := ownS_le l fun x hx => h x (List.mem_cons_of_mem _ hx)
    obtain ⟨h1, h2⟩ := h i (by simp)
    have h3 := h2.2 h1
    have h4 := cntO_le F i.sq n
    simp only [ownS, List.map_cons, List.sum_cons, List.length_cons, Nat.mul_add] at ih ⊢
    omega
theorem bel_mem {k n nw : Nat} {F : Nat → Fr} {Q : List (List IncR)} (h : BelP k n nw F Q) : ∀ i ∈ Q.flatten, 0 < i.wo ∧ FitI k n nw F i := by
  intro i hi
  obtain ⟨q, hq, hiq⟩ := List.mem_flatten.1 hi
  obtain ⟨b, hb⟩ := List.mem_iff_getElem?.1 hq
  obtain ⟨t, ht⟩ := List.mem_iff_getElem?.1 hiq
  obtain ⟨_, h2, h3, _⟩ := h.2.2 b q hb t i ht
  exact ⟨h2, h3⟩
theorem hasQ_iff {Q : List (List IncR)} {x : Int} : HasQ Q x ↔ x ∈ Q.flatten.map fun i => i.sq := by
  constructor
  · rintro ⟨q, hq, i, hi, e⟩
    exact List.mem_map.2 ⟨i, List.mem_flatten.2 ⟨q, hq, hi⟩, e⟩
  · intro h
    obtain ⟨i, hi, e⟩ := List.mem_map.1 h
    obtain ⟨q, hq, hiq⟩ := List.mem_flatten.1 hi
    exact ⟨q, hq, i, hiq, e⟩
/-- Belts that are sound: all frames that are not free are counted. -/
theorem snd_iff {k n nw : Nat} {F : Nat → Fr} {Q : List (List IncR)} (hv : FV F n) (h : BelP k n nw F Q) : SndP k n nw F Q ↔ cntU F n = ownS k Q.flatten := by
  have hm := bel_mem h
  have h1 := ownS_cnt Q.flatten hm
  have h2 := sum_cntO F _ (bel_nodup hv h) n
  obtain ⟨h3, h4⟩ := cntS_U (F := F) (S := Q.flatten.map fun i => i.sq) (fun s hs => by
    obtain ⟨i, hi, rfl⟩ := List.mem_map.1 hs
    have := fit_sq (hm i hi).2
    omega) n
  constructor
  · rintro ⟨_, h5⟩
    have := h4.2 fun f hf => (h5 f hf).imp id hasQ_iff.1
    omega
  · intro h5
    exact ⟨h, fun f hf => ((h4.1 (by omega)) f hf).imp id hasQ_iff.2⟩
end Go.Proofs.YtmhbbjbbckdlbaaDoor
namespace Go.Proofs.YtmhbbjbbckdlbaaDoor
open Go.RowKit
set_option maxRecDepth 100000
set_option linter.unusedVariables false

theorem nth_of {α : Type} {l : List α} {j : Nat} (h : j < l.length) : ∃ x, l[j]? = some x := ⟨l[j], List.getElem?_eq_getElem h⟩

/-- Where an increment with this number stands in a queue, if it does. -/
def IdxP (q : List IncR) (x k : Int) : Prop := (k = -1 ∧ ∀ i ∈ q, i.sq ≠ x) ∨ ∃ (t : Nat) (i : IncR), k = t ∧ q[t]? = some i ∧ i.sq = x

/-- Where an increment with this number stands in belts, if it does. -/
def PosP (Q : List (List IncR)) (x b k : Int) (f : Bool) : Prop := (b = 0 ∧ k = 0 ∧ f = false ∧ ¬ HasQ Q x) ∨ ∃ (s t : Nat) (q : List IncR) (i : IncR), b = s ∧ k = t ∧ f = true ∧ Q[s]? = some q ∧ q[t]? = some i ∧ i.sq = x
theorem PosP.has {Q : List (List IncR)} {x b k : Int} {f : Bool} (h : PosP Q x b k f) : f = true ↔ HasQ Q x := by
  rcases h with ⟨_, _, rfl, h⟩ | ⟨s, t, q, i, _, _, rfl, h1, h2, h3⟩
  · exact ⟨fun e => (by cases e), fun e => absurd e h⟩
  · exact ⟨fun _ => ⟨q, List.mem_iff_getElem?.2 ⟨s, h1⟩, i, List.mem_iff_getElem?.2 ⟨t, h2⟩, h3⟩, fun _ => rfl⟩

def PosOf (Q : List (List IncR)) (x : Int) (w : World) (e : Ending) (w' : World) : Prop := (∃ (b k : Int) (f : Bool), e = .returned (.tuple #[.int .i64 b, .int .i64 k, .bool f]) ∧ PosP Q x b k f) ∧ Below w.heap.size w w'

/-- An increment as a value; the empty one. -/
def IncR.v (i : IncR) : Value := .agg #[.int .i64 i.sq, .int .i64 i.bt, .int .i64 i.fi, .int .i64 i.la, .int .i64 i.wo]
def inc0 : IncR := ⟨0, 0, 0, 0, 0⟩
/-- An increment and whether there is one. -/
def GivesI (o : Option IncR) (w : World) (e : Ending) (w' : World) : Prop := e = .returned (.tuple #[(o.getD inc0).v, .bool o.isSome]) ∧ Below w.heap.size w w'

def FindOf (Q : List (List IncR)) (x : Int) (w : World) (e : Ending) (w' : World) : Prop := ∃ i : IncR, ∃ f : Bool, e = .returned (.tuple #[i.v, .bool f]) ∧ (f = true ↔ HasQ Q x) ∧ Below w.heap.size w w'

/-- Whether b is the index of a belt. -/
def isBQ (n : Nat) (b : Int) : Bool := decide (0 ≤ b) && decide (b < n)
/-- The first, the last increment of a belt. -/
def oldV (Q : List (List IncR)) (b : Nat) : Option IncR := (Q[b]?).bind fun q => q.head?
def youV (Q : List (List IncR)) (b : Nat) : Option IncR := (Q[b]?).bind fun q => q.getLast?

end Go.Proofs.YtmhbbjbbckdlbaaDoor
namespace Go.Proofs.YtmhbbjbbckdlbaaDoor
open Go.RowKit
set_option maxRecDepth 100000
set_option linter.unusedVariables false

def IffOf (P : Prop) (w : World) (e : Ending) (w' : World) : Prop := ∃ b, e = .returned (.bool b) ∧ (b = true ↔ P) ∧ Below w.heap.size w w'
theorem iff_no {P : Prop} (h : ¬ P) : (false = true) ↔ P := ⟨fun e => absurd e (by decide), fun e => absurd e h⟩
theorem iff_yes {P : Prop} (h : P) : (true = true) ↔ P := ⟨fun _ => h, fun _ => rfl⟩

/-- Whether belts are valid in a space. -/
def ValQ (s : Int) (nw : Nat) (wd : Nat → Int) (n : Nat) (F : Nat → Fr) (Q : List (List IncR)) : Prop := validB s nw wd n F = true ∧ SndP s.toNat n nw F Q

end Go.Proofs.YtmhbbjbbckdlbaaDoor
namespace Go.Proofs.YtmhbbjbbckdlbaaDoor
open Go.RowKit
set_option maxRecDepth 100000
set_option linter.unusedVariables false

/-- The increments ahead of the t-th one of belt b. -/
def preQ (Q : List (List IncR)) (b t : Nat) : List IncR := (Q.take b).flatten ++ ((Q[b]?).getD []).take t
theorem preQ_zero (Q : List (List IncR)) (b : Nat) : preQ Q b 0 = (Q.take b).flatten := by simp [preQ]
theorem preQ_next {Q : List (List IncR)} {b t : Nat} {q : List IncR} {i : IncR} (h : Q[b]? = some q) (hi : q[t]? = some i) : preQ Q b (t + 1) = preQ Q b t ++ [i] := by
  simp only [preQ, h, Option.getD_some]
  rw [List.take_add_one, hi, List.append_assoc]
  rfl
theorem preQ_row {Q : List (List IncR)} {b : Nat} {q : List IncR} (h : Q[b]? = some q) : preQ Q b q.length = preQ Q (b + 1) 0 := by
  rw [preQ_zero, List.take_add_one, h]
  simp [preQ, h]
theorem preQ_end (Q : List (List IncR)) : preQ Q Q.length 0 = Q.flatten := by rw [preQ_zero, List.take_length]
theorem preQ_len {Q : List (List IncR)} {b t : Nat} {q : List IncR} (h : Q[b]? = some q) (ht : t ≤ q.length) : (preQ Q b t).length ≤ Q.flatten.length := by
  have e : Q = Q.take b ++ q :: Q.drop (b + 1) := by
    obtain ⟨hb, hq⟩ := List.getElem?_eq_some_iff.1 h
    rw [← hq, List.getElem_cons_drop, List.take_append_drop]
  have e2 : Q.flatten.length = (Q.take b).flatten.length + q.length + (Q.drop (b + 1)).flatten.length := by
    conv => lhs; rw [e]
    simp [List.flatten_append]
    omega
  rw [e2]
  simp [preQ, h]
  omega
theorem preQ_mem {Q : List (List IncR)} {b t : Nat} {i : IncR} (h : i ∈ preQ Q b t) : (∃ b' q', b' < b ∧ Q[b']? = some q' ∧ i ∈ q') ∨ ∃ q j, Q[b]? = some q ∧ j < t ∧ q[j]? = some i := by
  rcases List.mem_append.1 h with h | h
  · obtain ⟨q, hq, hi⟩ := List.mem_flatten.1 h
    obtain ⟨b', hb'⟩ := List.mem_iff_getElem?.1 hq
    rw [List.getElem?_take] at hb'
    split at hb'
    · exact .inl ⟨b', q, ‹_›, hb', hi⟩
    · cases hb'
  · cases hq : Q[b]? with
    | none => rw [hq] at h; simp at h
    | some q =>
      rw [hq] at h
      simp only [Option.getD_some] at h
      obtain ⟨j, hj⟩ := List.mem_iff_getElem?.1 h
      rw [List.getElem?_take] at hj
      split at hj
      · exact .inr ⟨q, j, rfl, ‹_›, hj⟩
      · cases hj

theorem preQ_sub {Q : List (List IncR)} {b t : Nat} {q : List IncR} (h : Q[b]? = some q) : (preQ Q b t).Sublist Q.flatten := by
  have e : Q = Q.take b ++ q :: Q.drop (b + 1) := by
    obtain ⟨hb, hq⟩ := List.getElem?_eq_some_iff.1 h
    rw [← hq, List.getElem_cons_drop, List.take_append_drop]
  have e2 : Q.flatten = (Q.take b).flatten ++ (q ++ (Q.drop (b + 1)).flatten) := by
    conv => lhs; rw [e]
    simp [List.flatten_append]
  rw [e2, preQ, h]
  exact List.Sublist.append (List.Sublist.refl _) ((List.take_sublist _ _).trans (List.sublist_append_left _ _))

/-- What is known of the increments ahead. -/
def GoodP (k n nw : Nat) (F : Nat → Fr) (Q : List (List IncR)) (b t : Nat) : Prop :=
  (∀ b' q', b' < b → Q[b']? = some q' → QueP k n nw F b' q') ∧ (∀ (q : List IncR) (j : Nat) (i : IncR), Q[b]? = some q → j < t → q[j]? = some i → OkB k n nw F b q j i) ∧ ((preQ Q b t).map fun i => i.sq).Nodup
section
variable {k n nw : Nat} {F : Nat → Fr} {Q : List (List IncR)} {b t : Nat} {q : List IncR} {i : IncR}
theorem good_start : GoodP k n nw F Q 0 0 := ⟨fun _ _ h => by omega, fun _ _ _ _ h => by omega, by simp [preQ]⟩
theorem good_next (h : GoodP k n nw F Q b t) (hq : Q[b]? = some q) (hi : q[t]? = some i) (ho : OkB k n nw F b q t i) (hn : i.sq ∉ (preQ Q b t).map fun i => i.sq) : GoodP k n nw F Q b (t + 1) := by
  refine ⟨h.1, fun q' j x hq' hj hx => ?_, ?_⟩
  · rw [hq] at hq'
    injection hq' with hq'
    subst hq'
    rcases (by omega : j < t ∨ j = t) with e | rfl
    · exact h.2.1 q j x hq e hx
    · rw [hi] at hx
      injection hx with hx
      subst hx
      exact ho
  · rw [preQ_next hq hi, List.map_append, List.nodup_append]
    refine ⟨h.2.2, by simp, fun x hx y hy e => ?_⟩
    simp at hy
    subst hy
    subst e
    exact hn hx
theorem good_row (h : GoodP k n nw F Q b q.length) (hq : Q[b]? = some q) : GoodP k n nw F Q (b + 1) 0 := by
  refine ⟨fun b' q' hb hq' => ?_, fun _ _ _ _ h => by omega, ?_⟩
  · rcases (by omega : b' < b ∨ b' = b) with e | rfl
    · exact h.1 b' q' e hq'
    · rw [hq] at hq'
      injection hq' with hq'
      subst hq'
      exact fun j i hi => h.2.1 q j i hq (get_lt hi) hi
  · rw [← preQ_row hq]
    exact h.2.2
theorem good_end (h : GoodP k n nw F Q Q.length 0) (h1 : 1 ≤ Q.length) (h4 : Q.length ≤ 4) : BelP k n nw F Q := ⟨h1, h4, fun b q hq => h.1 b q (get_lt hq) hq⟩
theorem good_mem (h : GoodP k n nw F Q b t) : ∀ i ∈ preQ Q b t, 0 < i.wo ∧ FitI k n nw F i := by
  intro i hi
  rcases preQ_mem hi with ⟨b', q', hb, hq, hm⟩ | ⟨q, j, hq, hj, hi⟩
  · obtain ⟨j, hj⟩ := List.mem_iff_getElem?.1 hm
    have := h.1 b' q' hb hq j i hj
    exact ⟨this.2.1, this.2.2.1⟩
  · have := h.2.1 q j i hq hj hi
    exact ⟨this.2.1, this.2.2.1⟩
theorem good_own (h : GoodP k n nw F Q b t) (hq : Q[b]? = some q) (ht : t ≤ q.length) (hn : n ≤ 64) (htot : Q.flatten.length ≤ 400) : ownS k (preQ Q b t) ≤ 25600 ∧ (preQ Q b t).length ≤ 400 := by
  have h1 := ownS_le _ (good_mem h)
  have h2 := preQ_len hq ht
  have h3 : n * (preQ Q b t).length ≤ 64 * 400 := Nat.mul_le_mul hn (by omega)
  omega
theorem bad_ok (hq : Q[b]? = some q) (hi : q[t]? = some i) (h : ¬ OkB k n nw F b q t i) : ¬ SndP k n nw F Q := fun h2 => h (h2.1.2.2 b q hq t i hi)
theorem bad_dup (hv : FV F n) (hq : Q[b]? = some q) (hi : q[t]? = some i) (h : i.sq ∈ (preQ Q b t).map fun i => i.sq) : ¬ SndP k n nw F Q := fun h2 => by
  have h3 := (preQ_sub (t := t + 1) hq).map fun i : IncR => i.sq
  have h4 := h3.nodup (bel_nodup hv h2.1)
  rw [preQ_next hq hi, List.map_append, List.nodup_append] at h4
  exact h4.2.2 _ h _ (by simp) rfl
end

theorem Blk.next' {w w' : World} {b : Nat} {t : TypeId} {cs : Array Value} (h : Blk w b t cs) (hb : Below w.drew.heap.size w.drew w') : Blk w' b t cs := h.next (show Below w.heap.size w w' from ⟨hb.os, hb.tape, hb.output, hb.size, hb.block⟩)
theorem hM_row {w : World} {B : Nat} {t : TypeId} {v : Value} {n m : Nat} {xs : List Value} (hm : m = n) (h : w.ownsRow B t 1 v n xs) : w.ownsRow B t 1 v m xs := hm ▸ h
/-- The numbers of increments as a row of integers. -/
def seqC (l : List IncR) : List Value := l.map fun i => .int .i64 i.sq
theorem seqC_snoc (l : List IncR) (i : IncR) : seqC (l ++ [i]) = seqC l ++ [.int .i64 i.sq] := by simp [seqC]

end Go.Proofs.YtmhbbjbbckdlbaaDoor
namespace Go.Proofs.YtmhbbjbbckdlbaaDoor
open Go.RowKit
set_option maxRecDepth 100000
set_option linter.unusedVariables false

theorem row_t {w : World} {base s n g : Nat} {t : TypeId} {v : Value} {xs : List Value} (h : w.ownsRow base t s v n xs) (hg : v.ownBlock = some g) : ∃ cur, w.heap[g]? = some (.cells cur t (0, 0)) ∧ base ≤ g := by
  obtain ⟨_, ⟨rfl, _⟩ | ⟨g', cap, cur, rfl, hb, hh, _⟩⟩ := h
  · simp [Value.ownBlock] at hg
  · simp [Value.ownBlock] at hg
    subst hg
    exact ⟨cur, hh, hb⟩
theorem ownsRow_lower {w : World} {B B' s n : Nat} {e : TypeId} {v : Value} {xs : List Value} (h : w.ownsRow B e s v n xs) (hb : B' ≤ B) : w.ownsRow B' e s v n xs :=
  ⟨h.1, h.2.imp id fun ⟨g, cap, cur, h1, h2, h3⟩ => ⟨g, cap, cur, h1, Nat.le_trans hb h2, h3⟩⟩

/-- Belts of the call's own: the outer row; each inner one in a block of its own. -/
def Rows2 (w : World) (lo : Nat) (v : Value) (Q : List (List IncR)) : Prop :=
  ∃ V : Nat → Value, w.ownsRow lo 39 1 v Q.length ((List.range Q.length).map V) ∧ (∀ (j : Nat) (q : List IncR), Q[j]? = some q → w.ownsRow lo 38 5 (V j) q.length (incCells q)) ∧
    ∀ i j x, i ≠ j → i < Q.length → j < Q.length → (V i).ownBlock = some x → (V j).ownBlock ≠ some x

theorem Rows2.below {w w' : World} {lo : Nat} {v : Value} {Q : List (List IncR)} (h : Rows2 w lo v Q) (hb : Below w.heap.size w w') : Rows2 w' lo v Q := by
  obtain ⟨V, h1, h2, h3⟩ := h
  exact ⟨V, ownsRow_keep h1 fun g _ _ hl => hb.block g hl, fun j q hj => ownsRow_keep (h2 j q hj) fun g _ _ hl => hb.block g hl, h3⟩
theorem Rows2.qarr {w : World} {lo : Nat} {v : Value} {Q : List (List IncR)} (h : Rows2 w lo v Q) : ∃ A c, v = .slice A Q.length c ∧ QArr w (Rng lo w.heap.size) A c Q := by
  obtain ⟨V, h1, h2, _⟩ := h
  refine qarr_of (P := Rng lo w.heap.size) ⟨_, h1, fun j q hj => ?_⟩ (fun _ h => h) (fun b h1 h2 => ⟨h1, h2⟩)
  obtain ⟨A, c, e, hl⟩ := larr_of (h2 j q hj)
  exact ⟨A, c, by rw [List.getElem?_map, List.getElem?_range (get_lt hj)]; simp [e], hl⟩
/-- A row is taken out, and what has become of it put back. -/
theorem Rows2.get {w : World} {lo t : Nat} {v : Value} {Q : List (List IncR)} {q : List IncR} (h : Rows2 w lo v Q) (ht : Q[t]? = some q) :
    ∃ g cap y, v = .slice (some ⟨g, 0, none⟩) Q.length cap ∧ lo ≤ g ∧ g < w.heap.size ∧ w.cell? ⟨g, t, none⟩ = some y ∧ w.ownsRow lo 38 5 y q.length (incCells q) ∧
      ∀ w' y' q', w.grownBy w' y.ownBlock → w'.ownsRow lo 38 5 y' q'.length (incCells q') → (y'.ownBlock = y.ownBlock ∨ ∀ x, y'.ownBlock = some x → w.heap.size ≤ x) → y'.oneCell' = true →
        w'.cell? ⟨g, t, none⟩ = some y ∧ w'.frozen? ⟨g, t, none⟩ = false ∧ g < w'.heap.size ∧ Rows2 (w'.setCell ⟨g, t, none⟩ y') lo v (Q.set t q') := by
  obtain ⟨V, h1, h2, h3⟩ := h
  have htl := get_lt ht
  have h1c := h1
  obtain ⟨hl, ⟨_, h0⟩ | ⟨g, cap, cur, rfl, hb, hg, hc, hm, hs, htk⟩⟩ := h1
  · omega
  · have hcur : ∀ j, j < Q.length → cur[j]? = some (V j) := by
      intro j hj
      have e : ((List.range Q.length).map V)[j]? = some (V j) := by rw [List.getElem?_map, List.getElem?_range hj]; rfl
      rw [← htk, List.getElem?_take, if_pos (by omega)] at e
      simpa using e
    refine ⟨g, cap, V t, rfl, hb, blk_lt hg, (cell_row hg).trans (hcur t htl), h2 t q ht, fun w' y' q' hgr hy' hyb hy1 => ?_⟩
    have hgy : ∀ x, (V t).ownBlock = some x → g ≠ x := fun x hx e => by
      subst e
      obtain ⟨_, hh, _⟩ := row_t (h2 t q ht) hx
      rw [hg] at hh
      injection hh with hh
      injection hh with _ hh _
      exact absurd hh (by decide)
    have hg' : w'.heap[g]? = some (.cells cur 39 (0, 0)) := (hgr.block g (blk_lt hg) (fun e => hgy g e.symm rfl)).trans hg
    have hy'g : ∀ x, y'.ownBlock = some x → x ≠ g := fun x hx e => by
      subst e
      obtain ⟨_, hh, _⟩ := row_t hy' hx
      rw [hg'] at hh
      injection hh with hh
      injection hh with _ hh _
      exact absurd hh (by decide)
    refine ⟨(cell_row hg').trans (hcur t htl), free_row hg', blk_lt hg', fun j => if j = t then y' else V j, ?_, fun j x hj => ?_, fun i j x hij hi hj => ?_⟩
    · refine ⟨by simp, .inr ⟨g, cap, cur.setIfInBounds t y', by simp, hb, ?_, by simpa using hc, hm, by simpa using hs, ?_⟩⟩
      · simp [World.setCell, Array.getElem?_modify, hg']
      · refine List.ext_getElem? fun j => ?_
        rw [List.getElem?_take]
        split
        · have hj : j < Q.length := by simp at *; omega
          rw [List.getElem?_map, List.getElem?_range (by simpa using hj), Array.getElem?_toList, Array.getElem?_setIfInBounds]
          by_cases e : t = j
          · subst e
            rw [if_pos rfl, if_pos (by omega)]
            simp
          · rw [if_neg e, hcur j hj]
            have e2 : ¬ j = t := fun x => e x.symm
            simp [e2]
        · rw [List.getElem?_eq_none (by simp at *; omega)]
    · have hjl := get_lt hj
      simp at hjl
      by_cases e : j = t
      · subst e
        rw [List.getElem?_set_self htl] at hj
        injection hj with hj
        subst hj
        simp only [if_pos]
        exact ownsRow_keep hy' fun x hx _ _ => Below.heap_setCell w' ⟨g, j, none⟩ y' x (hy'g x hx)
      · rw [List.getElem?_set_ne (fun x => e x.symm)] at hj
        simp only [if_neg e]
        have hk := h2 j x hj
        refine ownsRow_keep (ownsRow_keep (w' := w') hk fun b hx _ hl => hgr.block b hl (fun e2 => ?_)) fun b hx _ hl => Below.heap_setCell w' ⟨g, t, none⟩ y' b (fun e2 => ?_)
        · exact h3 j t b e hjl htl hx e2.symm
        · have e2 : b = g := e2
          subst e2
          obtain ⟨_, hh, _⟩ := row_t hk hx
          rw [hg] at hh
          injection hh with hh
          injection hh with _ hh _
          exact absurd hh (by decide)
    · simp at hi hj
      by_cases e : i = t
      · subst e
        simp only [if_pos]
        rw [if_neg (fun e2 => hij e2.symm)]
        intro hx hx2
        rcases hyb with h | h
        · exact h3 i j x hij hi hj (by rw [← h]; exact hx) hx2
        · obtain ⟨q2, hq2⟩ := nth_of hj
          have := ((h2 j q2 hq2).lt x hx2).2
          have := h x hx
          omega
      · simp only [if_neg e]
        by_cases e2 : j = t
        · subst e2
          simp only [if_pos]
          intro hx hx2
          rcases hyb with h | h
          · exact h3 i j x hij hi hj hx (by rw [← h]; exact hx2)
          · obtain ⟨q2, hq2⟩ := nth_of hi
            have := ((h2 i q2 hq2).lt x hx).2
            have := h x hx2
            omega
        · simp only [if_neg e2]
          exact h3 i j x hij hi hj

theorem rows_info : (Tryd.prog.info? 39).map (fun i => (i.zero, i.size, i.bytes)) = some (some (.slice none 0 0), 1, 24) := by kernel_rfl
/-- New belts, all empty. -/
theorem Rows2.made {w : World} {lo n : Nat} {v : Value} (h : w.ownsRow lo 39 1 v n (List.replicate n (.slice none 0 0))) : Rows2 w lo v (List.replicate n []) := by
  refine ⟨fun _ => .slice none 0 0, ?_, fun j q hj => ?_, fun i j x _ _ _ h => by simp [Value.ownBlock] at h⟩
  · rw [List.length_replicate]
    rwa [show (List.range n).map (fun _ => Value.slice none 0 0) = List.replicate n (.slice none 0 0) by
      refine List.ext_getElem? fun j => ?_
      rw [List.getElem?_map, List.getElem?_replicate]
      by_cases e : j < n
      · rw [List.getElem?_range e, if_pos e]; rfl
      · rw [List.getElem?_eq_none (by simp; omega), if_neg e]; rfl]
  · rw [List.getElem?_replicate] at hj
    split at hj
    · injection hj with hj
      subst hj
      exact World.ownsRow_nil _ _ _ _
    · cases hj

/-- A new row of increments. -/
def GivesRowI (I : List IncR) (w : World) (e : Ending) (w' : World) : Prop := ∃ v, e = .returned v ∧ w'.ownsRow w.heap.size 38 5 v I.length (incCells I) ∧ v.oneCell' = true ∧ Below w.heap.size w w'
theorem row_one {w : World} {base s n : Nat} {t : TypeId} {v : Value} {xs : List Value} (h : w.ownsRow base t s v n xs) : v.oneCell' = true := by
  obtain ⟨_, ⟨rfl, _⟩ | ⟨g', cap, cur, rfl, _⟩⟩ := h <;> rfl

/-- The belts of a copy, the first t of them done. -/
def cpQ (Q : List (List IncR)) (t : Nat) : List (List IncR) := Q.take t ++ List.replicate (Q.length - t) []
theorem cpQ_get {Q : List (List IncR)} {t : Nat} (h : t < Q.length) : (cpQ Q t)[t]? = some [] := by
  have e : (Q.take t).length = t := by simp; omega
  rw [cpQ, List.getElem?_append_right (by omega), e, Nat.sub_self, List.getElem?_replicate, if_pos (by omega)]
theorem cpQ_len {Q : List (List IncR)} {t : Nat} (h : t ≤ Q.length) : (cpQ Q t).length = Q.length := by simp [cpQ]; omega
theorem cpQ_set {Q : List (List IncR)} {t : Nat} {q : List IncR} (h : Q[t]? = some q) : (cpQ Q t).set t q = cpQ Q (t + 1) := by
  have ht := get_lt h
  refine List.ext_getElem? fun j => ?_
  rcases (by omega : j = t ∨ j < t ∨ t < j) with e | e | e
  · subst e
    rw [List.getElem?_set_self (by rw [cpQ_len (by omega)]; exact ht), cpQ, List.getElem?_append_left (by simp; omega), List.getElem?_take, if_pos (by omega), h]
  · rw [List.getElem?_set_ne (by omega), cpQ, cpQ, List.getElem?_append_left (by simp; omega), List.getElem?_append_left (by simp; omega), List.getElem?_take, List.getElem?_take, if_pos e, if_pos (by omega)]
  · rw [List.getElem?_set_ne (by omega), cpQ, cpQ, List.getElem?_append_right (by simp; omega), List.getElem?_append_right (by simp; omega)]
    simp only [List.getElem?_replicate, List.length_take]
    by_cases e2 : j < Q.length
    · rw [if_pos (by omega), if_pos (by omega)]
    · rw [if_neg (by omega), if_neg (by omega)]
theorem cpQ_end (Q : List (List IncR)) : cpQ Q Q.length = Q := by simp [cpQ]

/-- New belts. -/
def GivesBelts (Q : List (List IncR)) (w : World) (e : Ending) (w' : World) : Prop := ∃ v, e = .returned v ∧ Rows2 w' w.heap.size v Q ∧ v.oneCell' = true ∧ Below w.heap.size w w'

end Go.Proofs.YtmhbbjbbckdlbaaDoor
namespace Go.Proofs.YtmhbbjbbckdlbaaDoor
open Go.RowKit
set_option maxRecDepth 100000
set_option linter.unusedVariables false

/-- A row in which some cells have been written. -/
def putA (cur : Array Value) : Nat → List Value → Array Value
  | _, [] => cur
  | o, v :: r => putA (cur.setIfInBounds o v) (o + 1) r
theorem putA_size : ∀ (vs : List Value) (o : Nat) (cur : Array Value), (putA cur o vs).size = cur.size
  | [], _, _ => rfl
  | v :: r, o, cur => by rw [putA, putA_size r]; simp
theorem putA_get : ∀ (vs : List Value) (o : Nat) (cur : Array Value) (i : Nat), o + vs.length ≤ cur.size → (putA cur o vs)[i]? = if o ≤ i ∧ i < o + vs.length then vs[i - o]? else cur[i]?
  | [], o, cur, i, _ => by rw [putA, if_neg (by simp only [List.length_nil]; omega)]
  | v :: r, o, cur, i, h => by
    rw [putA, putA_get r (o + 1) _ i (by simp at *; omega)]
    simp only [List.length_cons] at h ⊢
    rcases (by omega : i < o ∨ i = o ∨ (o < i ∧ i < o + (r.length + 1)) ∨ o + (r.length + 1) ≤ i) with e | e | e | e
    · rw [if_neg (by omega), if_neg (by omega), Array.getElem?_setIfInBounds, if_neg (by omega)]
    · subst e
      rw [if_neg (by omega), if_pos (by omega), Array.getElem?_setIfInBounds, if_pos rfl, if_pos (by omega), Nat.sub_self]
      rfl
    · rw [if_pos (by omega), if_pos (by omega), show i - o = (i - (o + 1)) + 1 by omega]
      rfl
    · rw [if_neg (by omega), if_neg (by omega), Array.getElem?_setIfInBounds, if_neg (by omega)]
theorem heap_setCells {g : Nat} {t : TypeId} {z : Nat × Nat} : ∀ (vs : List Value) (o : Nat) (w : World) (cur : Array Value), w.heap[g]? = some (.cells cur t z) → (w.setCells g o vs).heap[g]? = some (.cells (putA cur o vs) t z)
  | [], _, _, _, h => h
  | v :: r, o, w, cur, h => by
    rw [World.setCells, putA]
    exact heap_setCells r (o + 1) _ _ (by simp [World.setCell, Array.getElem?_modify, h])
theorem heap_setCells_far {g x : Nat} (h : x ≠ g) : ∀ (vs : List Value) (o : Nat) (w : World), (w.setCells g o vs).heap[x]? = w.heap[x]?
  | [], _, _ => rfl
  | v :: r, o, w => by
    rw [World.setCells, heap_setCells_far h r]
    exact Below.heap_setCell w ⟨g, o, none⟩ v x h
theorem setCells_row (g : Nat) : ∀ (vs : List Value) (o : Nat) (w : World), w.grownBy (w.setCells g o vs) (some g)
  | [], _, _ => ⟨rfl, rfl, rfl, Nat.le_refl _, fun _ _ _ => rfl⟩
  | v :: r, o, w => by
    have h := setCells_row g r (o + 1) (w.setCell ⟨g, o, none⟩ v)
    rw [World.setCells]
    exact ⟨h.os, h.tape, h.output, Nat.le_trans (by simp) h.size, fun k hk hn => (h.block k (by simpa using hk) hn).trans (Below.heap_setCell w ⟨g, o, none⟩ v k (fun e => hn (by rw [e])))⟩
def zeroI : List Value := [.int .i64 0, .int .i64 0, .int .i64 0, .int .i64 0, .int .i64 0]
theorem zeroValue_inc (w : World) : (zeroValue 38).run Tryd.prog w = .ok (.agg #[.int .i64 0, .int .i64 0, .int .i64 0, .int .i64 0, .int .i64 0]) w := by
  obtain ⟨i0, hi0, hz0, _, _⟩ := info_parts inc_info
  simp [zeroValue, typeInfo, hi0, hz0]
theorem run_clear_inc (w : World) (ty : TypeId) (g o c : Nat) (hc : ∀ j, j < 5 → (w.cell? ⟨g, o + j, none⟩).isSome = true) (hf : ∀ j, j < 5 → w.frozen? ⟨g, o + j, none⟩ = false) :
    (Builtin.clear_ #[39] ty #[.slice (some ⟨g, o, none⟩) 1 c]).run Tryd.prog w = .ok (.tuple #[]) (w.setCells g o zeroI) := by
  have hst := run_storeCells_cells (P := Tryd.prog) g o zeroI 0 w (by simpa [zeroI] using hc) (by simpa [zeroI] using hf) (by simp [zeroI, Value.oneCell'])
  simp only [Nat.add_zero] at hst
  have hzc : (Builtin.zeroCells (Value.agg #[.int .i64 0, .int .i64 0, .int .i64 0, .int .i64 0, .int .i64 0]).cells 1).toList = zeroI := by
    apply List.ext_getElem
    · simp [Builtin.zeroCells, Value.cells, zeroI]
    · intro i h1 h2
      have h3 : i < 5 := h2
      rcases (by omega : i = 0 ∨ i = 1 ∨ i = 2 ∨ i = 3 ∨ i = 4) with rfl | rfl | rfl | rfl | rfl <;> simp [Builtin.zeroCells, Value.cells, zeroI]
  simp [Builtin.clear_, run_underlying Tryd.underlying39, hzc, hst]

/-- What Delete leaves of a row. -/
theorem row_cut {w : World} {lo g cap k : Nat} {cur : Array Value} {q : List IncR} (hb : lo ≤ g) (hg : w.heap[g]? = some (.cells cur 38 (0, 0))) (hc : q.length ≤ cap) (hm : cap ≤ maxLen) (hs : cur.size = cap * 5) (htk : cur.toList.take (q.length * 5) = incCells q) (hk : k < q.length) :
    ((w.setCells g (k * 5) (incCells (q.drop (k + 1)))).setCells g ((q.length - 1) * 5) zeroI).ownsRow lo 38 5 (.slice (some ⟨g, 0, none⟩) (q.length - 1) cap) (q.length - 1) (incCells (q.eraseIdx k)) := by
  have hl1 : (incCells (q.drop (k + 1))).length = (q.length - (k + 1)) * 5 := by rw [incCells_length, List.length_drop]
  have he : q.eraseIdx k = q.take k ++ q.drop (k + 1) := List.eraseIdx_eq_take_drop_succ q k
  have hle : (q.eraseIdx k).length = q.length - 1 := by rw [List.length_eraseIdx, if_pos hk]
  refine ⟨by rw [incCells_length, hle], .inr ⟨g, cap, putA (putA cur (k * 5) (incCells (q.drop (k + 1)))) ((q.length - 1) * 5) zeroI, rfl, hb, heap_setCells _ _ _ _ (heap_setCells _ _ _ _ hg), by omega, hm, by rw [putA_size, putA_size, hs], ?_⟩⟩
  refine List.ext_getElem? fun i => ?_
  rw [List.getElem?_take]
  by_cases hi : i < (q.length - 1) * 5
  · rw [if_pos hi, Array.getElem?_toList, putA_get _ _ _ _ (by rw [putA_size, hs]; simp [zeroI]; omega), if_neg (by omega), putA_get _ _ _ _ (by rw [hl1, hs]; omega), hl1, he, incCells_append]
    have hlt : (incCells (q.take k)).length = k * 5 := by rw [incCells_length, List.length_take]; congr 1; omega
    by_cases hik : i < k * 5
    · rw [if_neg (by omega), List.getElem?_append_left (by omega)]
      have e1 : (incCells q)[i]? = cur[i]? := by
        rw [← htk, List.getElem?_take, if_pos (by omega), Array.getElem?_toList]
      rw [← e1]
      conv => lhs; rw [← List.take_append_drop k q, incCells_append]
      rw [List.getElem?_append_left (by omega)]
    · rw [if_pos (by omega), List.getElem?_append_right (by omega), hlt]
  · rw [if_neg hi, List.getElem?_eq_none (by rw [incCells_length, hle]; omega)]

end Go.Proofs.YtmhbbjbbckdlbaaDoor
namespace Go.Proofs.YtmhbbjbbckdlbaaDoor
open Go.RowKit
set_option maxRecDepth 100000
set_option linter.unusedVariables false

theorem append_block {P : Program} (w : World) (base : Nat) (t ty e : TypeId) (i : TypeInfo) (z : Value) (size bytes : Nat) (ht : P.underlying t = some (.slice e)) (hi : P.info? e = some i) (hz : i.zero = some z)
    (hsize : i.size = size) (hby : i.bytes = bytes) (hzs : z.cells.size = size) (hsz : 0 < size)
    (v : Value) (n : Nat) (xs : List Value) (hown : w.ownsRow base e size v n xs)
    (a : Addr) (m c : Nat) (news : List Value) (hl : news.length = m * size) (hnews : ∀ j u, news[j]? = some u → w.cell? (a.add j) = some u) (h1 : ∀ u ∈ news, u.oneCell' = true)
    (h63 : n + m ≤ maxLen) (hbytes : (n + m) * bytes ≤ 140737488355328) {v' : Value} {w' : World}
    (hr : (Builtin.append_ #[t, t] ty #[v, .slice (some a) m c]).run P w = .ok v' w') : v'.ownBlock = v.ownBlock ∨ ∀ x, v'.ownBlock = some x → w.heap.size ≤ x := by
  have hsmall : n + m ≤ 9223372036854775807 := by simp only [maxLen] at h63; omega
  rcases hown.2 with ⟨rfl, rfl⟩ | ⟨g, cap, cur, rfl, hbg, hg, hnc, hcm, hcs, htake⟩
  · refine .inr fun x hx => ?_
    obtain ⟨v2, w2, hr2, h2, _, _⟩ := run_append_own (P := P) w w.heap.size t ty e i z size bytes ht hi hz hsize hby hzs hsz (.slice none 0 0) 0 [] (World.ownsRow_nil _ _ _ _) a m c news hl hnews h1 h63 hbytes (Nat.le_refl _)
    rw [hr] at hr2
    injection hr2 with e1 e2
    subst e1 e2
    exact (h2.lt x hx).1
  · subst hsize
    subst hby
    by_cases hroom : n + m ≤ cap
    · have hfit : n * i.size + news.length ≤ cur.size := by rw [hl, hcs, ← Nat.add_mul]; exact Nat.mul_le_mul_right _ hroom
      have hr2 := run_append_room (P := P) w t ty e i ht hi g n cap cur hg a m c news hl hnews h1 hroom hfit
      rw [hr] at hr2
      injection hr2 with e1 e2
      subst e1
      exact .inl rfl
    · have holds : ∀ j u, xs[j]? = some u → w.cell? ((⟨g, 0, none⟩ : Addr).add j) = some u := hown.cells (g := g) rfl
      have hr2 := run_append_grow (P := P) w t ty e i z ht hi hz ⟨g, 0, none⟩ n cap xs hown.1 holds a m c news hl hnews (by omega) (by omega) (growslice_fits (by omega) hbytes)
      rw [hr] at hr2
      injection hr2 with e1 e2
      subst e1
      exact .inr fun x hx => by
        simp [Value.ownBlock] at hx
        omega

section
variable {P : Program} (w : World)
theorem wp_append_at {o : Oper} {a : Act} {K : Act → World → Prop} {Q : Exit → Act → World → Prop} (s x : Operand) (t : TypeId)
    (ho : o.op = .call { callee := .builtin .append, args := #[s, x], argTypes := #[t, t] })
    (base : Nat) (e : TypeId) (i : TypeInfo) (z : Value) (size bytes : Nat) (ht : P.underlying t = some (.slice e)) (hi : P.info? e = some i) (hz : i.zero = some z)
    (hsize : i.size = size) (hby : i.bytes = bytes) (hzs : z.cells.size = size) (hsz : 0 < size)
    (v : Value) (n : Nat) (xs : List Value) (hs : a.eval s = v) (hown : w.ownsRow base e size v n xs)
    (ad : Addr) (m c : Nat) (news : List Value) (hx : a.eval x = .slice (some ad) m c) (hl : news.length = m * size) (hnews : ∀ j u, news[j]? = some u → w.cell? (ad.add j) = some u) (h1 : ∀ u ∈ news, u.oneCell' = true)
    (h63 : n + m ≤ maxLen) (hbytes : (n + m) * bytes ≤ 140737488355328) (hbase : base ≤ w.heap.size)
    (h : ∀ v' w', w'.ownsRow base e size v' (n + m) (xs ++ news) → w.grownBy w' v.ownBlock → (v'.ownBlock = v.ownBlock ∨ ∀ x, v'.ownBlock = some x → w.heap.size ≤ x) → K (a.put o.dst v') w') : o.wp P a w K Q := by
  obtain ⟨v', w', hr, h2, h3, _⟩ := run_append_own (P := P) w base t o.type e i z size bytes ht hi hz hsize hby hzs hsz v n xs hown ad m c news hl hnews h1 h63 hbytes hbase
  have hb := append_block w base t o.type e i z size bytes ht hi hz hsize hby hzs hsz v n xs hown ad m c news hl hnews h1 h63 hbytes hr
  unfold Oper.wp execOp
  simp only [ho, resolve, invoke, builtin, Sem.run_bind, Sem.run_pure, Result.andThen_ok, List.map_toArray, List.map_cons, List.map_nil, hs, hx, hr]
  exact h v' w' h2 h3 hb
theorem wpList_append_at {ops : Array Oper} {rest : List Oper} {o : Oper} {a : Act} {Q : Exit → Act → World → Prop} (hgd : o.guard = none) (s x : Operand) (t : TypeId)
    (ho : o.op = .call { callee := .builtin .append, args := #[s, x], argTypes := #[t, t] })
    (base : Nat) (e : TypeId) (i : TypeInfo) (z : Value) (size bytes : Nat) (ht : P.underlying t = some (.slice e)) (hi : P.info? e = some i) (hz : i.zero = some z)
    (hsize : i.size = size) (hby : i.bytes = bytes) (hzs : z.cells.size = size) (hsz : 0 < size)
    (v : Value) (n : Nat) (xs : List Value) (hs : a.eval s = v) (hown : w.ownsRow base e size v n xs)
    (ad : Addr) (m c : Nat) (news : List Value) (hx : a.eval x = .slice (some ad) m c) (hl : news.length = m * size) (hnews : ∀ j u, news[j]? = some u → w.cell? (ad.add j) = some u) (h1 : ∀ u ∈ news, u.oneCell' = true)
    (h63 : n + m ≤ maxLen) (hbytes : (n + m) * bytes ≤ 140737488355328) (hbase : base ≤ w.heap.size)
    (h : ∀ v' w', w'.ownsRow base e size v' (n + m) (xs ++ news) → w.grownBy w' v.ownBlock → (v'.ownBlock = v.ownBlock ∨ ∀ x, v'.ownBlock = some x → w.heap.size ≤ x) → wpList P ops Q rest (a.put o.dst v') w') : wpList P ops Q (o :: rest) a w :=
  wpList_plain hgd fun _ hK => wp_append_at w s x t ho base e i z size bytes ht hi hz hsize hby hzs hsz v n xs hs hown ad m c news hx hl hnews h1 h63 hbytes hbase fun v' w' h2 h3 h4 => hK _ _ (h v' w' h2 h3 h4)
end
end Go.Proofs.YtmhbbjbbckdlbaaDoor
namespace Go.Proofs.YtmhbbjbbckdlbaaDoor
open Go.RowKit
set_option maxRecDepth 100000
set_option linter.unusedVariables false

theorem grown_left {V W w' : World} {row : Option Nat} (hb : Below V.heap.size V W) (hg : W.grownBy w' row) : V.grownBy w' row :=
  ⟨hg.os.trans hb.os, hg.tape.trans hb.tape, hg.output.trans hb.output, Nat.le_trans hb.size hg.size, fun k hk hn => (hg.block k (Nat.lt_of_lt_of_le hk hb.size) hn).trans (hb.block k hk)⟩
theorem Rows2.drew {w : World} {lo : Nat} {v : Value} {Q : List (List IncR)} (h : Rows2 w lo v Q) : Rows2 w.drew lo v Q := h
theorem grown_drew {V w' : World} {row : Option Nat} (h : V.drew.grownBy w' row) : V.grownBy w' row := ⟨h.os, h.tape, h.output, h.size, h.block⟩
theorem Rows2.lower {w : World} {lo lo' : Nat} {v : Value} {Q : List (List IncR)} (h : Rows2 w lo v Q) (hl : lo' ≤ lo) : Rows2 w lo' v Q := by
  obtain ⟨V, h1, h2, h3⟩ := h
  exact ⟨V, ownsRow_lower h1 hl, fun j q hj => ownsRow_lower (h2 j q hj) hl, h3⟩
theorem cell_far {w : World} {g t x j : Nat} {u : Value} (h : x ≠ g) : (w.setCell ⟨g, t, none⟩ u).cell? ⟨x, j, none⟩ = w.cell? ⟨x, j, none⟩ := World.cell?_of_block (a := ⟨x, j, none⟩) (Below.heap_setCell w ⟨g, t, none⟩ u x h)

end Go.Proofs.YtmhbbjbbckdlbaaDoor
namespace Go.Proofs.YtmhbbjbbckdlbaaDoor
open Go.RowKit
set_option maxRecDepth 100000
set_option linter.unusedVariables false

/-- New belts without one increment that has this number, and no error. -/
def RemOf (Q : List (List IncR)) (x : Int) (w : World) (e : Ending) (w' : World) : Prop :=
  ∃ (v : Value) (b k : Nat) (q : List IncR) (i : IncR), e = .returned (.tuple #[v, .int .i64 0]) ∧ Q[b]? = some q ∧ q[k]? = some i ∧ i.sq = x ∧ Rows2 w' w.heap.size v (Q.set b (q.eraseIdx k)) ∧ Below w.heap.size w w'

theorem Rows2.size_lt {w : World} {g n c : Nat} {lo : Nat} {Q : List (List IncR)} (h : Rows2 w lo (.slice (some ⟨g, 0, none⟩) n c) Q) : g < w.heap.size := by
  obtain ⟨V, h1, _⟩ := h
  exact (h1.lt g rfl).2

/-- How many increments the first t belts have. -/
def lenQ (Q : List (List IncR)) : Nat := Q.flatten.length
theorem lenQ_snoc {Q : List (List IncR)} {t : Nat} {q : List IncR} (h : Q[t]? = some q) : lenQ (Q.take (t + 1)) = lenQ (Q.take t) + q.length := by
  unfold lenQ
  rw [List.take_add_one, h, List.flatten_append, List.length_append]
  simp

def SlightOf (Q : List (List IncR)) (w : World) (e : Ending) (w' : World) : Prop := ∃ r, e = .returned (.bool r) ∧ (r = true → Q.length ≤ 8 ∧ lenQ Q ≤ 40) ∧ Below w.heap.size w w'

end Go.Proofs.YtmhbbjbbckdlbaaDoor
namespace Go.Proofs.YtmhbbjbbckdlbaaDoor
open Go.RowKit
set_option maxRecDepth 100000
set_option linter.unusedVariables false

/-- Increments as three belts. -/
def qOf (I : List IncR) : List (List IncR) := [I.filter fun i => i.bt == 0, I.filter fun i => i.bt == 1, I.filter fun i => i.bt == 2]
theorem qOf_len (I : List IncR) : (qOf I).length = 3 := rfl
theorem qOf_get {I : List IncR} {b : Nat} (h : b < 3) : (qOf I)[b]? = some (I.filter fun i => i.bt == (b : Int)) := by
  rcases (by omega : b = 0 ∨ b = 1 ∨ b = 2) with rfl | rfl | rfl <;> rfl
theorem qOf_next {I : List IncR} {t b : Nat} {i : IncR} (hi : I[t]? = some i) (hb : i.bt = b) (h : b < 3) : qOf (I.take (t + 1)) = (qOf (I.take t)).set b ((I.take t).filter (fun x => x.bt == (b : Int)) ++ [i]) := by
  have e : I.take (t + 1) = I.take t ++ [i] := by rw [List.take_add_one, hi]; rfl
  refine List.ext_getElem? fun j => ?_
  by_cases hj : j < 3
  · rw [qOf_get hj, e, List.filter_append]
    by_cases hjb : j = b
    · subst hjb
      rw [List.getElem?_set_self (by rw [qOf_len]; exact hj)]
      simp [hb]
    · rw [List.getElem?_set_ne (fun x => hjb x.symm), qOf_get hj]
      have : ¬ (i.bt = (j : Int)) := by omega
      simp [this]
  · rw [List.getElem?_eq_none (by rw [qOf_len]; omega), List.getElem?_eq_none (by simp [qOf]; omega)]

set_option maxHeartbeats 4000000 in
theorem queue_any (Al : Option Addr) (cl : Nat) (I : List IncR) (w : World) (hL : LArr w (Lt w.heap.size) Al cl I) (hI : ∀ i ∈ I, 0 ≤ i.bt ∧ i.bt < 3) (hn : I.length ≤ 400) :
    Calls Tryd.prog 28 #[.slice Al I.length cl, .int .i64 3] w (GivesBelts (qOf I) w) := by
  obtain ⟨j0, hj0, hy0, hy1, hy2⟩ := info_parts rows_info
  obtain ⟨i0, hi0, hz0, hz1, hz2⟩ := info_parts inc_info
  have HL := Lib.hid hL
  have HI := Lib.hid hI
  clear hL hI
  go_enter Tryd.func28, Tryd.ntmps28
  go_wp2_with (refine wpList_make_full _ rfl _ _ 32 rfl w.heap.size 39 j0 _ 1 Tryd.underlying32 hj0 hy0 hy1 _ _ _ _ 3 rfl rfl rfl rfl (by rw [hy2]; omega) (by simp only [maxLen]; omega) (Nat.le_refl _) ?_)
  intro w1 hown hgr
  have R0 := Lib.hid (show Rows2 w1 w.heap.size (.slice (some ⟨w.heap.size, 0, none⟩) 3 3) (qOf (I.take 0)) by
    rw [show qOf (I.take 0) = List.replicate 3 [] by simp [qOf]]
    refine Rows2.made ?_
    rw [toList_madeCells_one] at hown
    exact hown)
  have HB0 := Lib.hid ((Below.refl w.heap.size w).grown hgr (Nat.le_refl _) (by simp))
  clear hown hgr
  go_wp2_with fail
  go_loopw [12] (fun i wr => ∃ t : Nat, t ≤ I.length ∧ i = .int .i64 t ∧ Rows2 wr w.heap.size (.slice (some ⟨w.heap.size, 0, none⟩) 3 3) (qOf (I.take t)) ∧ Below w.heap.size w wr) (fun i _ => I.length - (intOf i).toNat)
  case atStart => exact ⟨0, by omega, rfl, R0.out, HB0.out⟩
  case round =>
    obtain ⟨t, ht, rfl, hr, hb⟩ := hrel
    obtain ⟨W0, hW0⟩ : ∃ W0, W0 = wr := ⟨_, rfl⟩
    subst hW0
    have HR := Lib.hid hr
    have HB := Lib.hid hb
    clear hr hb
    by_cases hlt : t < I.length
    · have hlt2 : 0 ≤ (t : Int) ∧ (t : Int) < I.length := by omega
      obtain ⟨i, hi⟩ := nth_of hlt
      obtain ⟨bi, oi, rfl, hP, hbz, d0, d1, d2, d3, d4⟩ := (HL.out.below HB.out).at_ hi
      have hib := HI.out i (List.mem_iff_getElem?.2 ⟨t, hi⟩)
      obtain ⟨b, hbt⟩ : ∃ b : Nat, i.bt = b := ⟨i.bt.toNat, by omega⟩
      have hb3 : b < 3 := by omega
      obtain ⟨q, hq⟩ : ∃ q, q = (I.take t).filter (fun x => x.bt == (b : Int)) := ⟨_, rfl⟩
      have hql : q.length ≤ 400 := by
        have := List.length_filter_le (fun x : IncR => x.bt == (b : Int)) (I.take t)
        rw [hq]
        simp at this ⊢
        omega
      obtain ⟨x0, hx0⟩ : ∃ x, x = i.sq := ⟨_, rfl⟩
      obtain ⟨x2, hx2⟩ : ∃ x, x = i.fi := ⟨_, rfl⟩
      obtain ⟨x3, hx3⟩ : ∃ x, x = i.la := ⟨_, rfl⟩
      obtain ⟨x4, hx4⟩ : ∃ x, x = i.wo := ⟨_, rfl⟩
      have HQN : Hid (qOf (I.take (t + 1)) = (qOf (I.take t)).set b (q ++ [⟨x0, b, x2, x3, x4⟩])) := Lib.hid (by
        rw [qOf_next hi hbt hb3, hq, hx0, hx2, hx3, hx4, ← hbt])
      rw [← hx0] at d0
      rw [hbt] at d1
      rw [← hx2] at d2
      rw [← hx3] at d3
      rw [← hx4] at d4
      have HGQ := Lib.hid (show (qOf (I.take t))[b]? = some q by rw [hq]; exact qOf_get hb3)
      obtain ⟨V, hV⟩ : ∃ V, V = W0.alloc (.cells #[.int .i64 x0, .int .i64 (b : Int), .int .i64 x2, .int .i64 x3, .int .i64 x4] 38) := ⟨_, rfl⟩
      have hbV : Below W0.heap.size W0 V := by rw [hV]; exact (Below.refl _ _).alloc (Nat.le_refl _) _
      have BIV := (show Blk V W0.heap.size 38 #[.int .i64 x0, .int .i64 (b : Int), .int .i64 x2, .int .i64 x3, .int .i64 x4] by rw [hV]; exact Blk.new _ _ _)
      have HBV : Hid (Below w.heap.size w V) := below_next HB.out (Nat.le_refl _) hbV
      have HVV := Lib.hid hV
      obtain ⟨g, cap, y, e, _, hgl, hcy, hyo, hput⟩ := (HR.out.below hbV).get HGQ.out
      have eg := e
      clear e
      injection eg with e1 e2 e3
      injection e1 with e1
      injection e1 with e1 e4 e5
      subst e1
      clear e2 e3
      obtain ⟨Ay, cy, rfl, _⟩ := row_slice hyo
      have HPUT := Lib.hid hput
      have hWV : W0.heap.size < V.heap.size := BIV.lt
      have hww : w.heap.size ≤ V.heap.size := HBV.out.size
      obtain ⟨g2, cap2, y2, eg2, _, _, hcy2, hyo2, _⟩ := HR.out.get HGQ.out
      have HNE : Hid (∀ j, some (⟨W0.heap.size, j, none⟩ : Addr).block ≠ (Value.slice Ay q.length cy).ownBlock) := Lib.hid fun j e => by
        injection eg2 with f1 f2 f3
        injection f1 with f1
        injection f1 with f1 f4 f5
        subst f1
        have h1 : V.cell? ⟨w.heap.size, b, none⟩ = some y2 := by
          rw [hbV.cell (p := ⟨w.heap.size, b, none⟩) (cell_lt hcy2)]; exact hcy2
        rw [hcy] at h1
        injection h1 with h1
        subst h1
        have := (hyo2.lt _ e.symm).2
        simp at this
      have HRB : Hid (∀ k, (Value.slice Ay q.length cy).ownBlock = some k → w.heap.size ≤ k) := Lib.hid fun k hk => (hyo.lt k hk).1
      have HYO2 : Hid ((V.drew.alloc (.cells #[.int .i64 x0, .int .i64 (b : Int), .int .i64 x2, .int .i64 x3, .int .i64 x4] 38)).ownsRow w.heap.size 38 5 (.slice Ay q.length cy) q.length (incCells q)) := Lib.hid (World.ownsRow.alloc (show V.drew.ownsRow _ _ _ _ _ _ from hyo) _)
      have HN5 : Hid (∀ (j : Nat) (u : Value), [Value.int .i64 x0, .int .i64 (b : Int), .int .i64 x2, .int .i64 x3, .int .i64 x4][j]? = some u → (V.drew.alloc (.cells #[.int .i64 x0, .int .i64 (b : Int), .int .i64 x2, .int .i64 x3, .int .i64 x4] 38)).cell? ((⟨V.heap.size, 0, none⟩ : Addr).add j) = some u) := Lib.hid (five_news (by go_simp) (by go_simp) (by go_simp) (by go_simp) (by go_simp))
      have HBA : Hid (Below V.heap.size V (V.drew.alloc (.cells #[.int .i64 x0, .int .i64 (b : Int), .int .i64 x2, .int .i64 x3, .int .i64 x4] 38))) := Lib.hid (((Below.refl V.heap.size V).drew).alloc (Nat.le_refl _) _)
      have HM1 := Lib.hid (show q.length + 1 ≤ maxLen by simp only [maxLen]; omega)
      have HM2 := Lib.hid (show (q.length + 1) * 40 ≤ 140737488355328 by omega)
      have HWW := Lib.hid (show w.heap.size ≤ (V.drew.alloc (.cells #[.int .i64 x0, .int .i64 (b : Int), .int .i64 x2, .int .i64 x3, .int .i64 x4] 38)).heap.size by simp; omega)
      have hbi : 0 ≤ (b : Int) ∧ (b : Int) < 3 := by omega
      have hb3i : (b : Int) < 3 := by omega
      have p0 := BIV.cell 0
      have p1 := BIV.cell 1
      have p2 := BIV.cell 2
      have p3 := BIV.cell 3
      have p4 := BIV.cell 4
      simp at p0 p1 p2 p3 p4
      have zi := hWV
      have hgw : W0.heap.size ≠ w.heap.size := by have := HR.out.size_lt; omega
      have a0 := Lib.cell?_alloc_some (.cells #[.int .i64 x0, .int .i64 (b : Int), .int .i64 x2, .int .i64 x3, .int .i64 x4] 38) (show V.drew.cell? ⟨W0.heap.size, 0, none⟩ = _ from p0)
      have a1 := Lib.cell?_alloc_some (.cells #[.int .i64 x0, .int .i64 (b : Int), .int .i64 x2, .int .i64 x3, .int .i64 x4] 38) (show V.drew.cell? ⟨W0.heap.size, 1, none⟩ = _ from p1)
      have a2 := Lib.cell?_alloc_some (.cells #[.int .i64 x0, .int .i64 (b : Int), .int .i64 x2, .int .i64 x3, .int .i64 x4] 38) (show V.drew.cell? ⟨W0.heap.size, 2, none⟩ = _ from p2)
      have a3 := Lib.cell?_alloc_some (.cells #[.int .i64 x0, .int .i64 (b : Int), .int .i64 x2, .int .i64 x3, .int .i64 x4] 38) (show V.drew.cell? ⟨W0.heap.size, 3, none⟩ = _ from p3)
      have a4 := Lib.cell?_alloc_some (.cells #[.int .i64 x0, .int .i64 (b : Int), .int .i64 x2, .int .i64 x3, .int .i64 x4] 38) (show V.drew.cell? ⟨W0.heap.size, 4, none⟩ = _ from p4)
      have acy := Lib.cell?_alloc_some (.cells #[.int .i64 x0, .int .i64 (b : Int), .int .i64 x2, .int .i64 x3, .int .i64 x4] 38) (show V.drew.cell? ⟨w.heap.size, b, none⟩ = _ from hcy)
      clear hput hyo hyo2 hcy2 eg2 hV hbV BIV hi hP hbt hq hx0 hx2 hx3 hx4
      go_wp2_with fail
      rw [← HVV.out]
      clear d0 d1 d2 d3 d4
      refine wp_region_held_drew (S := (fun w' => w'.cell? ⟨W0.heap.size, 0, none⟩ = some (.int .i64 x0) ∧ w'.cell? ⟨W0.heap.size, 1, none⟩ = some (.int .i64 (b : Int)) ∧ w'.cell? ⟨W0.heap.size, 2, none⟩ = some (.int .i64 x2) ∧ w'.cell? ⟨W0.heap.size, 3, none⟩ = some (.int .i64 x3) ∧ w'.cell? ⟨W0.heap.size, 4, none⟩ = some (.int .i64 x4))) (by kernel_rfl) ?_ (fun hHeld => ?_)
      · exact ⟨p0, p1, p2, p3, p4⟩
      (refine wpAnyH_take (i := 0) (v := ?_) rfl (by kernel_rfl) (by kernel_rfl) (by kernel_rfl) (fun _ _ _ h => h) (Or.inl ⟨by rfl, ?_⟩) (by assumption) ?_; rotate_left 1; (focus (intro w' hSw; (try dsimp only at hSw); go_simp; (try with_reducible rfl); done)); try simp only [Act.put, List.setIfInBounds_toArray, List.set_cons_zero, List.set_cons_succ, List.getElem_toArray, List.getElem_cons_zero])
      (refine wpAnyH_take (i := 1) (v := ?_) rfl (by kernel_rfl) (by kernel_rfl) (by kernel_rfl) (fun _ _ _ h => h) (Or.inl ⟨by rfl, ?_⟩) (by assumption) ?_; rotate_left 1; (focus (intro w' hSw; (try dsimp only at hSw); go_simp; (try with_reducible rfl); done)); try simp only [Act.put, List.setIfInBounds_toArray, List.set_cons_zero, List.set_cons_succ, List.getElem_toArray, List.getElem_cons_zero, List.getElem_cons_succ])
      (refine wpAnyH_take (i := 2) (v := ?_) rfl (by kernel_rfl) (by kernel_rfl) (by kernel_rfl) (fun _ _ _ h => h) (Or.inl ⟨by rfl, ?_⟩) (by assumption) ?_; rotate_left 1; (focus (intro w' hSw; (try dsimp only at hSw); go_simp; (try with_reducible rfl); done)); try simp only [Act.put, List.setIfInBounds_toArray, List.set_cons_zero, List.set_cons_succ, List.getElem_toArray, List.getElem_cons_zero, List.getElem_cons_succ])
      (refine wpAnyH_take (i := 3) (v := ?_) rfl (by kernel_rfl) (by kernel_rfl) (by kernel_rfl) (fun _ _ _ h => h) (Or.inl ⟨by rfl, ?_⟩) (by assumption) ?_; rotate_left 1; (focus (intro w' hSw; (try dsimp only at hSw); go_simp; (try with_reducible rfl); done)); try simp only [Act.put, List.setIfInBounds_toArray, List.set_cons_zero, List.set_cons_succ, List.getElem_toArray, List.getElem_cons_zero, List.getElem_cons_succ])
      (refine wpAnyH_take (i := 4) (v := ?_) rfl (by kernel_rfl) (by kernel_rfl) (by kernel_rfl) (fun _ _ _ h => h) (Or.inl ⟨by rfl, ?_⟩) (by assumption) ?_; rotate_left 1; (focus (intro w' hSw; (try dsimp only at hSw); go_simp; (try with_reducible rfl); done)); try simp only [Act.put, List.setIfInBounds_toArray, List.set_cons_zero, List.set_cons_succ, List.getElem_toArray, List.getElem_cons_zero, List.getElem_cons_succ])
      (refine wpAnyH_take (i := 5) (v := ?_) rfl (by kernel_rfl) (by kernel_rfl) (by kernel_rfl) (fun _ _ _ h => h) (Or.inl ⟨by rfl, ?_⟩) (by assumption) ?_; rotate_left 1; (focus (intro w' hSw; (try dsimp only at hSw); go_simp; (try with_reducible rfl); done)); try simp only [Act.put, List.setIfInBounds_toArray, List.set_cons_zero, List.set_cons_succ, List.getElem_toArray, List.getElem_cons_zero, List.getElem_cons_succ])
      (refine wpAnyH_take (i := 6) (v := ?_) rfl (by kernel_rfl) (by kernel_rfl) (by kernel_rfl) (fun _ _ _ h => h) (Or.inl ⟨by rfl, ?_⟩) (by assumption) ?_; rotate_left 1; (focus (intro w' hSw; (try dsimp only at hSw); go_simp; (try with_reducible rfl); done)); try simp only [Act.put, List.setIfInBounds_toArray, List.set_cons_zero, List.set_cons_succ, List.getElem_toArray, List.getElem_cons_zero, List.getElem_cons_succ])
      (refine wpAnyH_take (i := 8) (v := ?_) rfl (by kernel_rfl) (by kernel_rfl) (by kernel_rfl) (fun _ _ _ h => h) (Or.inl ⟨by rfl, ?_⟩) (by assumption) ?_; rotate_left 1; (focus (intro w' hSw; (try dsimp only at hSw); go_simp; (try with_reducible rfl); done)); try simp only [Act.put, List.setIfInBounds_toArray, List.set_cons_zero, List.set_cons_succ, List.getElem_toArray, List.getElem_cons_zero, List.getElem_cons_succ])
      refine wpAnyH_ready (rs := [7, 9]) (by kernel_rfl) (by simp) ?_
      refine AllReadyH.cons rfl (fun K hK => ?_) (AllReadyH.cons rfl (fun K hK => ?_) AllReadyH.nil)
      · go_simp
        refine hK.out _ _ ⟨p0, p1, p2, p3, p4⟩ (fun hHeld2 => ?_)
        clear hK K hHeld
        have hHeld := hHeld2
        clear hHeld2
        try simp only [Act.put, List.setIfInBounds_toArray, List.set_cons_zero, List.set_cons_succ, List.getElem_toArray, List.getElem_cons_zero, List.getElem_cons_succ]
        refine wpAnyH_ready (rs := [9]) (by kernel_rfl) (by simp) ?_
        refine AllReadyH.cons rfl (fun K hK => ?_) AllReadyH.nil
        go_simp
        refine hK.out _ _ ⟨a0, a1, a2, a3, a4⟩ (fun hHeld2 => ?_)
        clear hK K hHeld
        have hHeld := hHeld2
        clear hHeld2
        try simp only [Act.put, List.setIfInBounds_toArray, List.set_cons_zero, List.set_cons_succ, List.getElem_toArray, List.getElem_cons_zero, List.getElem_cons_succ]
        refine wpAnyH_ready (rs := [10]) (by kernel_rfl) (by simp) ?_
        refine AllReadyH.cons rfl (fun K hK => ?_) AllReadyH.nil
        rw [if_pos (by rfl)]
        refine wp_append_at _ (.tmp 27) (.tmp 29) 39 rfl w.heap.size 38 i0 _ 5 40 Tryd.underlying39 hi0 hz0 hz1 hz2 rfl (by decide) (.slice Ay q.length cy) q.length (incCells q) rfl HYO2.out ⟨V.heap.size, 0, none⟩ 1 1 [.int .i64 x0, .int .i64 (b : Int), .int .i64 x2, .int .i64 x3, .int .i64 x4] rfl rfl HN5.out (by simp [Value.oneCell']) HM1.out HM2.out HWW.out ?_
        intro v' w2 hown hgr hblk
        obtain ⟨A', c', rfl, _⟩ := row_slice hown
        obtain ⟨s5, sf, sz, hr2⟩ := HPUT.out w2 (.slice A' (q.length + 1) c') (q ++ [⟨x0, b, x2, x3, x4⟩]) (grown_left HBA.out hgr) (by rw [incCells_snoc, List.length_append]; exact hown) (hblk.imp id fun h x hx => Nat.le_trans HBA.out.size (h x hx)) rfl
        have s0 := World.grownBy.cell hgr a0 (HNE.out 0)
        have s1 := World.grownBy.cell hgr a1 (HNE.out 1)
        have s2 := World.grownBy.cell hgr a2 (HNE.out 2)
        have s3 := World.grownBy.cell hgr a3 (HNE.out 3)
        have s4 := World.grownBy.cell hgr a4 (HNE.out 4)
        have t0 := (cell_far (w := w2) (t := b) (u := .slice A' (q.length + 1) c') hgw).trans s0
        have t1 := (cell_far (w := w2) (t := b) (u := .slice A' (q.length + 1) c') hgw).trans s1
        have t2 := (cell_far (w := w2) (t := b) (u := .slice A' (q.length + 1) c') hgw).trans s2
        have t3 := (cell_far (w := w2) (t := b) (u := .slice A' (q.length + 1) c') hgw).trans s3
        have t4 := (cell_far (w := w2) (t := b) (u := .slice A' (q.length + 1) c') hgw).trans s4
        refine hK.out _ _ ⟨s0, s1, s2, s3, s4⟩ (fun hHeld2 => ?_)
        clear hK K hHeld
        have hHeld := hHeld2
        clear hHeld2
        try simp only [Act.put, List.setIfInBounds_toArray, List.set_cons_zero, List.set_cons_succ, List.getElem_toArray, List.getElem_cons_zero, List.getElem_cons_succ]
        (refine wpAnyH_take (i := 11) (v := ?_) rfl (by kernel_rfl) (by kernel_rfl) (by kernel_rfl) (fun _ _ _ h => h) (Or.inl ⟨by rfl, ?_⟩) (by assumption) ?_; rotate_left 1; (focus (intro w' hSw; (try dsimp only at hSw); go_simp; (try with_reducible rfl); done)); try simp only [Act.put, List.setIfInBounds_toArray, List.set_cons_zero, List.set_cons_succ, List.getElem_toArray, List.getElem_cons_zero, List.getElem_cons_succ])
        refine wpAnyH_ready (rs := [12]) (by kernel_rfl) (by simp) ?_
        refine AllReadyH.cons rfl (fun K hK => ?_) AllReadyH.nil
        go_simp
        refine hK.out _ _ ⟨t0, t1, t2, t3, t4⟩ (fun hHeld2 => ?_)
        clear hK K hHeld
        have hHeld := hHeld2
        clear hHeld2
        try simp only [Act.put, List.setIfInBounds_toArray, List.set_cons_zero, List.set_cons_succ, List.getElem_toArray, List.getElem_cons_zero, List.getElem_cons_succ]
        refine wpAnyH_done (by kernel_rfl) ?_ _
        have HR2 : Hid (Rows2 (w2.setCell ⟨w.heap.size, b, none⟩ (.slice A' (q.length + 1) c')) w.heap.size (.slice (some ⟨w.heap.size, 0, none⟩) 3 3) (qOf (I.take (t + 1)))) := Lib.hid (by rw [HQN.out]; exact hr2)
        have HB5 : Hid (Below w.heap.size w (w2.setCell ⟨w.heap.size, b, none⟩ (.slice A' (q.length + 1) c'))) := Lib.hid (((below_next HBV.out (Nat.le_refl _) HBA.out).grown hgr HWW.out HRB.out).setCell (p := ⟨w.heap.size, b, none⟩) (Nat.le_refl _) _)
        clear hHeld a0 a1 a2 a3 a4 acy hr2 hgr hown hblk s0 s1 s2 s3 s4 s5 t0 t1 t2 t3 t4 sf sz hcy HPUT
        go_wp2
        exact ⟨⟨t + 1, by omega, by go_num, HR2.out, HB5.out⟩, by simp [intOf]; omega⟩
      · go_simp
        refine hK.out _ _ ⟨a0, a1, a2, a3, a4⟩ (fun hHeld2 => ?_)
        clear hK K hHeld
        have hHeld := hHeld2
        clear hHeld2
        try simp only [Act.put, List.setIfInBounds_toArray, List.set_cons_zero, List.set_cons_succ, List.getElem_toArray, List.getElem_cons_zero, List.getElem_cons_succ]
        refine wpAnyH_ready (rs := [7]) (by kernel_rfl) (by simp) ?_
        refine AllReadyH.cons rfl (fun K hK => ?_) AllReadyH.nil
        go_simp
        refine hK.out _ _ ⟨a0, a1, a2, a3, a4⟩ (fun hHeld2 => ?_)
        clear hK K hHeld
        have hHeld := hHeld2
        clear hHeld2
        try simp only [Act.put, List.setIfInBounds_toArray, List.set_cons_zero, List.set_cons_succ, List.getElem_toArray, List.getElem_cons_zero, List.getElem_cons_succ]
        refine wpAnyH_ready (rs := [10]) (by kernel_rfl) (by simp) ?_
        refine AllReadyH.cons rfl (fun K hK => ?_) AllReadyH.nil
        rw [if_pos (by rfl)]
        refine wp_append_at _ (.tmp 27) (.tmp 29) 39 rfl w.heap.size 38 i0 _ 5 40 Tryd.underlying39 hi0 hz0 hz1 hz2 rfl (by decide) (.slice Ay q.length cy) q.length (incCells q) rfl HYO2.out ⟨V.heap.size, 0, none⟩ 1 1 [.int .i64 x0, .int .i64 (b : Int), .int .i64 x2, .int .i64 x3, .int .i64 x4] rfl rfl HN5.out (by simp [Value.oneCell']) HM1.out HM2.out HWW.out ?_
        intro v' w2 hown hgr hblk
        obtain ⟨A', c', rfl, _⟩ := row_slice hown
        obtain ⟨s5, sf, sz, hr2⟩ := HPUT.out w2 (.slice A' (q.length + 1) c') (q ++ [⟨x0, b, x2, x3, x4⟩]) (grown_left HBA.out hgr) (by rw [incCells_snoc, List.length_append]; exact hown) (hblk.imp id fun h x hx => Nat.le_trans HBA.out.size (h x hx)) rfl
        have s0 := World.grownBy.cell hgr a0 (HNE.out 0)
        have s1 := World.grownBy.cell hgr a1 (HNE.out 1)
        have s2 := World.grownBy.cell hgr a2 (HNE.out 2)
        have s3 := World.grownBy.cell hgr a3 (HNE.out 3)
        have s4 := World.grownBy.cell hgr a4 (HNE.out 4)
        have t0 := (cell_far (w := w2) (t := b) (u := .slice A' (q.length + 1) c') hgw).trans s0
        have t1 := (cell_far (w := w2) (t := b) (u := .slice A' (q.length + 1) c') hgw).trans s1
        have t2 := (cell_far (w := w2) (t := b) (u := .slice A' (q.length + 1) c') hgw).trans s2
        have t3 := (cell_far (w := w2) (t := b) (u := .slice A' (q.length + 1) c') hgw).trans s3
        have t4 := (cell_far (w := w2) (t := b) (u := .slice A' (q.length + 1) c') hgw).trans s4
        refine hK.out _ _ ⟨s0, s1, s2, s3, s4⟩ (fun hHeld2 => ?_)
        clear hK K hHeld
        have hHeld := hHeld2
        clear hHeld2
        try simp only [Act.put, List.setIfInBounds_toArray, List.set_cons_zero, List.set_cons_succ, List.getElem_toArray, List.getElem_cons_zero, List.getElem_cons_succ]
        (refine wpAnyH_take (i := 11) (v := ?_) rfl (by kernel_rfl) (by kernel_rfl) (by kernel_rfl) (fun _ _ _ h => h) (Or.inl ⟨by rfl, ?_⟩) (by assumption) ?_; rotate_left 1; (focus (intro w' hSw; (try dsimp only at hSw); go_simp; (try with_reducible rfl); done)); try simp only [Act.put, List.setIfInBounds_toArray, List.set_cons_zero, List.set_cons_succ, List.getElem_toArray, List.getElem_cons_zero, List.getElem_cons_succ])
        refine wpAnyH_ready (rs := [12]) (by kernel_rfl) (by simp) ?_
        refine AllReadyH.cons rfl (fun K hK => ?_) AllReadyH.nil
        go_simp
        refine hK.out _ _ ⟨t0, t1, t2, t3, t4⟩ (fun hHeld2 => ?_)
        clear hK K hHeld
        have hHeld := hHeld2
        clear hHeld2
        try simp only [Act.put, List.setIfInBounds_toArray, List.set_cons_zero, List.set_cons_succ, List.getElem_toArray, List.getElem_cons_zero, List.getElem_cons_succ]
        refine wpAnyH_done (by kernel_rfl) ?_ _
        have HR2 : Hid (Rows2 (w2.setCell ⟨w.heap.size, b, none⟩ (.slice A' (q.length + 1) c')) w.heap.size (.slice (some ⟨w.heap.size, 0, none⟩) 3 3) (qOf (I.take (t + 1)))) := Lib.hid (by rw [HQN.out]; exact hr2)
        have HB5 : Hid (Below w.heap.size w (w2.setCell ⟨w.heap.size, b, none⟩ (.slice A' (q.length + 1) c'))) := Lib.hid (((below_next HBV.out (Nat.le_refl _) HBA.out).grown hgr HWW.out HRB.out).setCell (p := ⟨w.heap.size, b, none⟩) (Nat.le_refl _) _)
        clear hHeld a0 a1 a2 a3 a4 acy hr2 hgr hown hblk s0 s1 s2 s3 s4 s5 t0 t1 t2 t3 t4 sf sz hcy HPUT
        go_wp2
        exact ⟨⟨t + 1, by omega, by go_num, HR2.out, HB5.out⟩, by simp [intOf]; omega⟩
    · have hlt2 : ¬ (t : Int) < I.length := by omega
      obtain rfl : t = I.length := by omega
      have HR2 : Hid (Rows2 W0 w.heap.size (.slice (some ⟨w.heap.size, 0, none⟩) 3 3) (qOf I)) := Lib.hid (by have h := HR.out; rwa [List.take_length] at h)
      go_wp2
      go_ret
      exact ⟨_, rfl, HR2.out, rfl, HB.out⟩
end Go.Proofs.YtmhbbjbbckdlbaaDoor
namespace Go.Proofs.YtmhbbjbbckdlbaaDoor
open Go.RowKit
set_option maxRecDepth 100000
set_option linter.unusedVariables false

theorem grown_nil {w w1 : World} (h : w.grownBy w1 none) : Below w.heap.size w w1 := ⟨h.os, h.tape, h.output, h.size, fun k hk => h.block k hk (by simp)⟩
/-- One row more behind the others. -/
theorem rows2_push {wr w1 w2 : World} {lo t : Nat} {v v2 y : Value} {Q : List (List IncR)} {q : List IncR} {V : Nat → Value} {o : Obj} (hq : Q[t]? = some q) (hb : Below wr.heap.size wr w1)
    (h2 : ∀ (j : Nat) (x : List IncR), (Q.take t)[j]? = some x → wr.ownsRow lo 38 5 (V j) x.length (incCells x))
    (h3 : ∀ i j x, i ≠ j → i < (Q.take t).length → j < (Q.take t).length → (V i).ownBlock = some x → (V j).ownBlock ≠ some x)
    (hy : w1.ownsRow wr.heap.size 38 5 y q.length (incCells q)) (hyl : ∀ x, y.ownBlock = some x → wr.heap.size ≤ x)
    (hown : w2.ownsRow lo 39 1 v2 (t + 1) ((List.range t).map V ++ [y])) (hgr : (w1.alloc o).grownBy w2 v.ownBlock)
    (h1 : (w1.alloc o).ownsRow lo 39 1 v t ((List.range t).map V)) (hlo : lo ≤ wr.heap.size := by omega) : Rows2 w2 lo v2 (Q.take (t + 1)) := by
  have htl := get_lt hq
  have hlen : (Q.take t).length = t := by simp; omega
  have hlen2 : (Q.take (t + 1)).length = t + 1 := by simp; omega
  have hne : ∀ {s n : Nat} {B : Nat} {z : Value} {xs : List Value}, w1.ownsRow B 38 s z n xs → ∀ x, z.ownBlock = some x → v.ownBlock ≠ some x := by
    intro s n B z xs hz x hx hv
    obtain ⟨_, hh, _⟩ := row_t (hz.alloc o) hx
    obtain ⟨_, hh2, _⟩ := row_t h1 hv
    rw [hh] at hh2
    injection hh2 with hh2
    injection hh2 with _ hh2 _
    exact absurd hh2 (by decide)
  have hkeep : ∀ {s n : Nat} {B : Nat} {z : Value} {xs : List Value}, w1.ownsRow B 38 s z n xs → w2.ownsRow B 38 s z n xs := by
    intro s n B z xs hz
    exact ownsRow_keep (hz.alloc o) fun x hx _ hl => hgr.block x hl (fun e => hne hz x hx e.symm)
  refine ⟨fun j => if j = t then y else V j, ?_, fun j x hj => ?_, fun i j x hij hi hj => ?_⟩
  · rw [hlen2, List.range_succ, List.map_append]
    have e : (List.range t).map (fun j => if j = t then y else V j) = (List.range t).map V := by
      refine List.map_congr_left fun j hj => ?_
      have := List.mem_range.1 hj
      rw [if_neg (by omega)]
    rw [e]
    simpa using hown
  · rcases (by have := get_lt hj; omega : j < t ∨ j = t) with e | e
    · rw [List.getElem?_take, if_pos (by omega)] at hj
      simp only [if_neg (show ¬ j = t by omega)]
      have h := h2 j x (by rw [List.getElem?_take, if_pos e]; exact hj)
      exact hkeep (ownsRow_keep h fun g _ _ hl => hb.block g hl)
    · subst e
      rw [List.getElem?_take, if_pos (by omega), hq] at hj
      injection hj with hj
      subst hj
      simp only [if_pos]
      exact ownsRow_lower (hkeep hy) hlo
  · rw [hlen2] at hi hj
    have low : ∀ k z, k < t → (V k).ownBlock = some z → z < wr.heap.size := fun k z hk hz => by
      obtain ⟨qk, hqk⟩ := nth_of (l := Q.take t) (j := k) (by omega)
      exact ((h2 k qk hqk).lt z hz).2
    by_cases e : i = t
    · subst e
      simp only [if_pos]
      rw [if_neg (fun e2 => hij e2.symm)]
      intro hx hx2
      have := hyl x hx
      have := low j x (by omega) hx2
      omega
    · simp only [if_neg e]
      by_cases e2 : j = t
      · subst e2
        simp only [if_pos]
        intro hx hx2
        have := hyl x hx2
        have := low i x (by omega) hx
        omega
      · simp only [if_neg e2]
        exact h3 i j x hij (by omega) (by omega)

set_option maxHeartbeats 4000000 in
theorem copyQ_any (A : Option Addr) (c : Nat) (Q : List (List IncR)) (w : World) (hQ : QArr w (Lt w.heap.size) A c Q) (hn : Q.length ≤ 4096) (hqn : ∀ q ∈ Q, q.length ≤ 4000) :
    Calls Tryd.prog 44 #[.slice A Q.length c] w (GivesBelts Q w) := by
  obtain ⟨j0, hj0, hy0, hy1, hy2⟩ := info_parts rows_info
  obtain ⟨i0, hi0, hz0, hz1, hz2⟩ := info_parts inc_info
  have HQ := Lib.hid hQ
  have HQN := Lib.hid hqn
  clear hQ hqn
  go_enter Tryd.func44, Tryd.ntmps44
  go_wp2_with fail
  go_loopw [3, 8] (fun v i wr => ∃ t : Nat, t ≤ Q.length ∧ i = .int .i64 t ∧ Rows2 wr w.heap.size v (Q.take t) ∧ Below w.heap.size w wr) (fun _ i _ => Q.length - (intOf i).toNat)
  case atStart => exact ⟨0, by omega, rfl, ⟨fun _ => .slice none 0 0, World.ownsRow_nil _ _ _ _, fun j q hj => by simp at hj, fun i j x _ hi => by simp at hi⟩, Below.refl _ _⟩
  case round =>
    obtain ⟨t, ht, rfl, hr, hb⟩ := hrel
    have HR := Lib.hid hr
    have HB := Lib.hid hb
    clear hr hb
    by_cases hlt : t < Q.length
    · have hlt2 : 0 ≤ (t : Int) ∧ (t : Int) < Q.length := by omega
      obtain ⟨q, hq⟩ := nth_of hlt
      obtain ⟨b, o, Ai, ci, rfl, hP, _, c0', hL⟩ := HQ.out.at_ hq
      have c0 := (HB.out.cell (p := ⟨b, o + t, none⟩) hP).trans c0'
      have hbz : b < wr.heap.size := cell_lt c0
      have HL := Lib.hid (hL.below HB.out)
      have HQE := Lib.hid hq
      have hqn := HQN.out q (List.mem_iff_getElem?.2 ⟨t, hq⟩)
      have HM1 := Lib.hid (show t + 1 ≤ maxLen by simp only [maxLen]; omega)
      have HM2 := Lib.hid (show (t + 1) * 24 ≤ 140737488355328 by omega)
      have hin : ∀ k, (Value.slice none 0 0).ownBlock = some k → wr.heap.size ≤ k := fun k hk => by simp [Value.ownBlock] at hk
      clear hq hP hL c0'
      rcases Ai with _ | ad
      · have hc := HL.out.2.2.1 rfl
        have hl0 := HL.out.1
        have hI : q = [] := List.length_eq_zero_iff.1 (by omega)
        subst hI hc
        have HGN : Hid (Below wr.heap.size wr wr) := Lib.hid (Below.refl _ _)
        have hown : wr.ownsRow wr.heap.size 38 5 (.slice none 0 0) ([] : List IncR).length (incCells []) := World.ownsRow_nil _ _ _ _
        obtain ⟨V, h1, h2, h3⟩ := HR.out
        have H1 := Lib.hid (World.ownsRow.alloc (ownsRow_keep (w' := wr) h1 fun g _ _ hl => HGN.out.block g hl) (.cells #[.slice none 0 0] 39))
        have hy' := Lib.hid hown
        have HYL := Lib.hid (show ∀ x, (Value.slice none 0 0).ownBlock = some x → wr.heap.size ≤ x from fun x hx => (hown.lt x hx).1)
        have HNEW : Hid (∀ (j : Nat) (u : Value), [Value.slice none 0 0][j]? = some u → (wr.alloc (.cells #[.slice none 0 0] 39)).cell? ((⟨wr.heap.size, 0, none⟩ : Addr).add j) = some u) := Lib.hid (one_news (by go_simp))
        have HTT := Lib.hid (show (Q.take t).length = t by simp; omega)
        have H1' : Hid ((wr.alloc (.cells #[.slice none 0 0] 39)).ownsRow w.heap.size 39 1 u3 t ((List.range t).map V)) := Lib.hid (by have h := H1.out; rw [HTT.out] at h; exact h)
        have hsz1 : wr.heap.size ≤ wr.heap.size := HGN.out.size
        have hszw : w.heap.size ≤ wr.heap.size := HB.out.size
        have HBS := Lib.hid (show w.heap.size ≤ (wr.alloc (.cells #[.slice none 0 0] 39)).heap.size by simp; omega)
        have HOB := Lib.hid (row_block H1'.out)
        clear hown h1 H1
        go_wp2_with (at_builtin; refine wpList_append_at _ rfl _ _ 32 rfl w.heap.size 39 j0 _ 1 24 Tryd.underlying32 hj0 hy0 hy1 hy2 rfl (by decide) u3 t ((List.range t).map V) rfl H1'.out ⟨wr.heap.size, 0, none⟩ 1 1 [Value.slice none 0 0] rfl rfl HNEW.out (by simp [Value.oneCell']) HM1.out HM2.out HBS.out ?_)
        intro v2 w2 hown2 hgr2 _
        have HR2 := Lib.hid (rows2_push HQE.out (show Below wr.heap.size wr wr from HGN.out) (h2 := h2) (h3 := h3) hy'.out HYL.out hown2 hgr2 H1'.out)
        have HB2 : Hid (Below w.heap.size w w2) := Lib.hid ((((below_next HB.out (Nat.le_refl _) HGN.out).alloc (by omega) (.cells #[.slice none 0 0] 39))).grown hgr2 HBS.out HOB.out)
        clear hown2 hgr2 h2 h3
        go_wp2
        exact ⟨⟨t + 1, by omega, by go_num, HR2.out, HB2.out⟩, by simp [intOf]; omega⟩
      · have hcs : ∀ (j : Nat) (u : Value), (incCells q)[j]? = some u → wr.cell? (ad.add j) = some u := by
          intro j u hu
          have hj := get_lt hu
          rw [incCells_length] at hj
          obtain ⟨b, o, e, _⟩ := HL.out.2.2.2 (by omega)
          injection e with e
          subst e
          exact HL.out.cells j u hu
        have HC := Lib.hid hcs
        have HLN := Lib.hid (incCells_length q)
        have HN1 := Lib.hid (show 0 + q.length ≤ maxLen by simp only [maxLen]; omega)
        have HN2 := Lib.hid (show (0 + q.length) * 40 ≤ 140737488355328 by omega)
        clear hcs
        go_wp2_with (at_builtin; refine wpList_append_own _ rfl _ _ 39 rfl wr.heap.size 38 i0 _ 5 40 Tryd.underlying39 hi0 hz0 hz1 hz2 rfl (by decide) (.slice none 0 0) 0 [] rfl (World.ownsRow_nil _ _ _ _) ad q.length ci (incCells q) rfl HLN.out HC.out (incCells_one q) HN1.out HN2.out (Nat.le_refl _) ?_)
        intro v1 w1 hown hgrN _
        try simp only [Nat.zero_add, List.nil_append] at hown
        obtain ⟨Ay, cy, rfl, _⟩ := row_slice hown
        have HGN := Lib.hid (grown_nil hgrN)
        obtain ⟨V, h1, h2, h3⟩ := HR.out
        have H1 := Lib.hid (World.ownsRow.alloc (ownsRow_keep (w' := w1) h1 fun g _ _ hl => HGN.out.block g hl) (.cells #[.slice Ay q.length cy] 39))
        have hy' := Lib.hid hown
        have HYL := Lib.hid (show ∀ x, (Value.slice Ay q.length cy).ownBlock = some x → wr.heap.size ≤ x from fun x hx => (hown.lt x hx).1)
        have HNEW : Hid (∀ (j : Nat) (u : Value), [Value.slice Ay q.length cy][j]? = some u → (w1.alloc (.cells #[.slice Ay q.length cy] 39)).cell? ((⟨w1.heap.size, 0, none⟩ : Addr).add j) = some u) := Lib.hid (one_news (by go_simp))
        have HTT := Lib.hid (show (Q.take t).length = t by simp; omega)
        have H1' : Hid ((w1.alloc (.cells #[.slice Ay q.length cy] 39)).ownsRow w.heap.size 39 1 u3 t ((List.range t).map V)) := Lib.hid (by have h := H1.out; rw [HTT.out] at h; exact h)
        have hsz1 : wr.heap.size ≤ w1.heap.size := HGN.out.size
        have hszw : w.heap.size ≤ wr.heap.size := HB.out.size
        have HBS := Lib.hid (show w.heap.size ≤ (w1.alloc (.cells #[.slice Ay q.length cy] 39)).heap.size by simp; omega)
        have HOB := Lib.hid (row_block H1'.out)
        clear hown hgrN h1 H1
        go_wp2_with (at_builtin; refine wpList_append_at _ rfl _ _ 32 rfl w.heap.size 39 j0 _ 1 24 Tryd.underlying32 hj0 hy0 hy1 hy2 rfl (by decide) u3 t ((List.range t).map V) rfl H1'.out ⟨w1.heap.size, 0, none⟩ 1 1 [Value.slice Ay q.length cy] rfl rfl HNEW.out (by simp [Value.oneCell']) HM1.out HM2.out HBS.out ?_)
        intro v2 w2 hown2 hgr2 _
        have HR2 := Lib.hid (rows2_push HQE.out (show Below wr.heap.size wr w1 from HGN.out) (h2 := h2) (h3 := h3) hy'.out HYL.out hown2 hgr2 H1'.out)
        have HB2 : Hid (Below w.heap.size w w2) := Lib.hid ((((below_next HB.out (Nat.le_refl _) HGN.out).alloc (by omega) (.cells #[.slice Ay q.length cy] 39))).grown hgr2 HBS.out HOB.out)
        clear hown2 hgr2 h2 h3
        go_wp2
        exact ⟨⟨t + 1, by omega, by go_num, HR2.out, HB2.out⟩, by simp [intOf]; omega⟩
    · have hlt2 : ¬ (t : Int) < Q.length := by omega
      obtain rfl : t = Q.length := by omega
      have HR2 : Hid (Rows2 wr w.heap.size u3 Q) := Lib.hid (by have h := HR.out; rwa [List.take_length] at h)
      go_wp2
      go_ret
      obtain ⟨A2, c2, e2, _⟩ := HR2.out.qarr
      exact ⟨_, rfl, HR2.out, by rw [e2]; rfl, HB.out⟩
end Go.Proofs.YtmhbbjbbckdlbaaDoor
namespace Go.Proofs.YtmhbbjbbckdlbaaDoor
open Go.RowKit
set_option maxRecDepth 100000
set_option linter.unusedVariables false

end Go.Proofs.YtmhbbjbbckdlbaaDoor
namespace Go.Proofs.YtmhbbjbbckdlbaaDoor
open Go.RowKit
set_option maxRecDepth 100000
set_option linter.unusedVariables false

theorem allP_asc {F : Nat → Fr} {n k : Nat} {I : List IncR} (h : AllP F n k I) : I.Pairwise fun a b => a.sq < b.sq := by
  refine List.pairwise_iff_getElem.2 fun u v hu hv huv => ?_
  have h1 := (h u _ (List.getElem?_eq_getElem hu)).2.2.2
  have h2 := (h v _ (List.getElem?_eq_getElem hv)).2.2.1
  omega
theorem inc_fit {F : Nat → Fr} {n k nw : Nat} {i : IncR} (h : IncP F n k i.sq i.bt i.fi i.la i.wo) (hw : 0 < i.wo) (hnw : nw = n * 2 ^ k) : FitI k n nw F i := by
  obtain ⟨h1, h2, h3, h4, W, e, h5, h6⟩ := h
  have hcov := ceilV_cover W k
  have hle := cntO_le F i.sq n
  have hmul : ceilV W k * 2 ^ k ≤ n * 2 ^ k := Nat.mul_le_mul_right _ (by omega)
  exact ⟨⟨h1, by omega, h3, by omega, W, e, by omega, h5, fun h => by omega⟩, fun _ => by rw [e, Int.toNat_natCast, h6]⟩
theorem allP_belts {F : Nat → Fr} {n k : Nat} {I : List IncR} (h : AllP F n k I) : ∀ i ∈ I, 0 ≤ i.bt ∧ i.bt < 3 := fun i hi => by
  obtain ⟨t, ht⟩ := List.mem_iff_getElem?.1 hi
  obtain ⟨⟨_, _, h3, h4, _⟩, _⟩ := h t i ht
  omega
theorem allP_bel {F : Nat → Fr} {n k nw : Nat} {I : List IncR} (h : AllP F n k I) (hnw : nw = n * 2 ^ k) : BelP k n nw F (qOf I) := by
  refine ⟨by rw [qOf_len]; omega, by rw [qOf_len]; omega, fun b q hq t i hi => ?_⟩
  have hb : b < 3 := get_lt hq
  rw [qOf_get hb] at hq
  injection hq with hq
  have hm : i ∈ q := List.mem_iff_getElem?.2 ⟨t, hi⟩
  rw [← hq, List.mem_filter] at hm
  obtain ⟨u, hu⟩ := List.mem_iff_getElem?.1 hm.1
  obtain ⟨h1, h2, _⟩ := h u i hu
  refine ⟨by simpa using hm.2, h2, inc_fit h1 h2 hnw, fun j h0 hj => ?_⟩
  have hpw : q.Pairwise fun a b => a.sq < b.sq := by rw [← hq]; exact (allP_asc h).filter _
  have := List.pairwise_iff_getElem.1 hpw (t - 1) t (get_lt hj) (get_lt hi) (by omega)
  rw [(List.getElem?_eq_some_iff.1 hj).2, (List.getElem?_eq_some_iff.1 hi).2] at this
  exact this
theorem own_has {I : List IncR} (h : ∀ i ∈ I, 0 ≤ i.bt ∧ i.bt < 3) {x : Int} (ho : OwnI I x) : HasQ (qOf I) x := by
  obtain ⟨i, hi, e⟩ := ho
  obtain ⟨h1, h2⟩ := h i hi
  obtain ⟨b, hb⟩ : ∃ b : Nat, i.bt = b := ⟨i.bt.toNat, by omega⟩
  exact ⟨_, List.mem_iff_getElem?.2 ⟨b, qOf_get (by omega)⟩, i, List.mem_filter.2 ⟨hi, by simpa using hb⟩, e⟩
theorem qOf_total {I : List IncR} (h : ∀ i ∈ I, 0 ≤ i.bt ∧ i.bt < 3) : (qOf I).flatten.length = I.length := by
  induction I with
  | nil => rfl
  | cons i I ih =>
    have ih := ih fun x hx => h x (List.mem_cons_of_mem _ hx)
    obtain ⟨h1, h2⟩ := h i (by simp)
    simp only [qOf, List.flatten_cons, List.flatten_nil, List.length_append, List.length_nil, List.length_cons, List.filter_cons] at ih ⊢
    rcases (by omega : i.bt = 0 ∨ i.bt = 1 ∨ i.bt = 2) with e | e | e <;> simp [e] at ih ⊢ <;> omega
theorem made_snd {F : Nat → Fr} {n k nw : Nat} {I : List IncR} (h : AllP F n k I) (hnw : nw = n * 2 ^ k) (ho : ∀ f, f < n → (F f).ow = -1 ∨ OwnI I (F f).ow) : SndP k n nw F (qOf I) :=
  ⟨allP_bel h hnw, fun f hf => (ho f hf).imp id fun h1 => own_has (allP_belts h) h1⟩

/-- The sum of the words. -/
def sumW (l : List IncR) : Nat := (l.map fun i => i.wo.toNat).sum
theorem wrd_fold : ∀ (l : List IncR) (a : Nat), (∀ i ∈ l, 0 ≤ i.wo) → a + sumW l ≤ 1152921504606846976 → l.foldl (fun x i => wrap64 (x + i.wo)) (a : Int) = ((a + sumW l : Nat) : Int)
  | [], a, _, _ => by simp [sumW]
  | i :: l, a, h, hb => by
    have h0 := h i (by simp)
    simp only [sumW, List.map_cons, List.sum_cons] at hb ⊢
    have e : wrap64 ((a : Int) + i.wo) = ((a + i.wo.toNat : Nat) : Int) := by
      rw [IntWalk.wrap64_in _ (by omega)]
      omega
    rw [List.foldl_cons, e, wrd_fold l (a + i.wo.toNat) (fun x hx => h x (List.mem_cons_of_mem _ hx)) (by unfold sumW; omega)]
    unfold sumW
    omega
theorem wrdQ_sum {Q : List (List IncR)} (h : ∀ i ∈ Q.flatten, 0 ≤ i.wo) (hb : sumW Q.flatten ≤ 1152921504606846976) : wrdQ Q = (sumW Q.flatten : Nat) := by
  have h1 := wrd_fold Q.flatten 0 h (by omega)
  rw [List.foldl_flatten] at h1
  unfold wrdQ
  have e : wrdL = fun a q => List.foldl (fun x i => wrap64 (x + i.wo)) a q := by funext a q; rfl
  rw [e]
  simpa using h1
theorem lg_fold {k : Nat} : ∀ (l : List IncR) (a : Int), 0 ≤ a → (∀ i ∈ l, Hd.ceilZ i.wo k = (ceilV i.wo.toNat k : Nat)) → l.foldl (fun x i => if x < Hd.ceilZ i.wo k then Hd.ceilZ i.wo k else x) a ≤ a + (ownS k l : Nat)
  | [], a, _, _ => by simp [ownS]
  | i :: l, a, ha, h => by
    have h0 := h i (by simp)
    rw [List.foldl_cons]
    have e : ownS k (i :: l) = ceilV i.wo.toNat k + ownS k l := by simp [ownS]
    rw [e]
    by_cases h9 : a < Hd.ceilZ i.wo k
    · rw [if_pos h9]
      have ih := lg_fold l (Hd.ceilZ i.wo k) (by omega) fun x hx => h x (List.mem_cons_of_mem _ hx)
      omega
    · rw [if_neg h9]
      have ih := lg_fold l a ha fun x hx => h x (List.mem_cons_of_mem _ hx)
      omega
theorem lgQ_le {k : Nat} {Q : List (List IncR)} (h : ∀ i ∈ Q.flatten, Hd.ceilZ i.wo k = (ceilV i.wo.toNat k : Nat)) : lgQ k Q ≤ (ownS k Q.flatten : Nat) := by
  have h1 := lg_fold Q.flatten 0 (Int.le_refl _) h
  rw [List.foldl_flatten] at h1
  unfold lgQ
  have e : lgL (k : Int) = fun a q => List.foldl (fun x i => if x < Hd.ceilZ i.wo k then Hd.ceilZ i.wo k else x) a q := by funext a q; rfl
  rw [e]
  rw [Int.zero_add] at h1
  exact h1
theorem ceilV_tight {W k : Nat} (h : 0 < W) : ceilV W k * 2 ^ k + 1 ≤ W + 2 ^ k := by
  unfold ceilV
  have h1 := Nat.div_mul_le_self (W + 2 ^ k - 1) (2 ^ k)
  have := Nat.two_pow_pos k
  omega
/-- Frames and words: no more, and not many fewer. -/
theorem own_words {k : Nat} : ∀ l : List IncR, (∀ i ∈ l, 0 < i.wo) → sumW l ≤ ownS k l * 2 ^ k ∧ ownS k l * 2 ^ k + l.length ≤ sumW l + l.length * 2 ^ k
  | [], _ => by simp [sumW, ownS]
  | i :: l, h => by
    obtain ⟨h1, h2⟩ := own_words (k := k) l fun x hx => h x (List.mem_cons_of_mem _ hx)
    have h0 := h i (by simp)
    have h3 := ceilV_cover i.wo.toNat k
    have h4 := ceilV_tight (W := i.wo.toNat) (k := k) (by omega)
    simp only [sumW, ownS, List.map_cons, List.sum_cons, List.length_cons, Nat.add_mul] at h1 h2 ⊢
    omega
theorem cntU_own (F : Nat → Fr) : ∀ n, cntU F n + cntP (owB F (-1)) n = n
  | 0 => rfl
  | n + 1 => by
    have ih := cntU_own F n
    simp only [cntU, cntP]
    by_cases e : (F n).ow = -1
    · rw [if_pos e, owB_yes e]; simp; omega
    · rw [if_neg e, owB_no e]; simp; omega
end Go.Proofs.YtmhbbjbbckdlbaaDoor
namespace Go.Proofs.YtmhbbjbbckdlbaaDoor
open Go.RowKit
set_option maxRecDepth 100000
set_option linter.unusedVariables false

theorem largest_at (s : Int) (V1 V2 : Value) (A : Option Addr) (c m : Nat) (Q : List (List IncR)) (w : World) (z : Int) (hQ : QArr w (Lt w.heap.size) A c Q) (h1 : m = Q.length) (h2 : lgQ s Q = z) :
    Calls Tryd.prog 31 #[.agg #[.int .i64 s, V1, V2], .slice A m c] w fun e w' => e = .returned (.int .i64 z) ∧ Below w.heap.size w w' := by
  subst h1 h2
  exact largest_any s V1 V2 A c Q w hQ
theorem queue_at (Al : Option Addr) (cl m : Nat) (I : List IncR) (w : World) (hL : LArr w (Lt w.heap.size) Al cl I) (hI : ∀ i ∈ I, 0 ≤ i.bt ∧ i.bt < 3) (hn : I.length ≤ 400) (h1 : m = I.length) :
    Calls Tryd.prog 28 #[.slice Al m cl, .int .i64 3] w (GivesBelts (qOf I) w) := by
  subst h1
  exact queue_any Al cl I w hL hI hn
theorem bits_k {k : Nat} (h0 : 3 ≤ k) (h1 : k ≤ 4) : IntKind.u64.wrap (k : Int) = k ∧ (k : Int).toNat = k ∧ IntKind.i64.wrap (2 ^ k) = ((2 ^ k : Nat) : Int) := by
  rcases (by omega : k = 3 ∨ k = 4) with rfl | rfl <;> decide

end Go.Proofs.YtmhbbjbbckdlbaaDoor
namespace Go.Proofs.YtmhbbjbbckdlbaaDoor
open Go.RowKit
set_option maxRecDepth 100000
set_option linter.unusedVariables false

/-- A slice of integers that may be written, wherever it begins. -/
def WRow (w : World) (A : Option Addr) (c : Nat) (xs : List Int) : Prop :=
  xs.length ≤ c ∧ c ≤ maxLen ∧ (A = none → c = 0) ∧ ∀ ad, A = some ad → ∃ g o, ad = ⟨g, o, none⟩ ∧ g < w.heap.size ∧ (∀ t x, xs[t]? = some x → w.cell? ⟨g, o + t, none⟩ = some (.int .i64 x)) ∧
    ∀ t, t < c → (w.cell? ⟨g, o + t, none⟩).isSome = true ∧ w.frozen? ⟨g, o + t, none⟩ = false
theorem WRow.keep {w w' : World} {A : Option Addr} {c : Nat} {xs : List Int} (h : WRow w A c xs) (hs : w.heap.size ≤ w'.heap.size) (hk : ∀ ad, A = some ad → w'.heap[ad.block]? = w.heap[ad.block]?) : WRow w' A c xs := by
  refine ⟨h.1, h.2.1, h.2.2.1, fun ad ha => ?_⟩
  obtain ⟨g, o, e, hg, h1, h2⟩ := h.2.2.2 ad ha
  have hb := hk ad ha
  rw [e] at hb
  refine ⟨g, o, e, by omega, fun t x hx => ?_, fun t ht => ?_⟩
  · rw [World.cell?_of_block (w := w) (a := ⟨g, o + t, none⟩) hb]; exact h1 t x hx
  · rw [World.cell?_of_block (w := w) (a := ⟨g, o + t, none⟩) hb, World.frozen?_of_block (w := w) (a := ⟨g, o + t, none⟩) hb]; exact h2 t ht
theorem WRow.nil (w : World) : WRow w none 0 [] := ⟨by simp, by simp, fun _ => rfl, fun ad h => by cases h⟩
def blkO (A : Option Addr) : Option Nat := A.map fun a => a.block

section
variable {P : Program} (w : World)
/-- One number behind the others: in place or in a new block. -/
theorem wpList_append_w {ops : Array Oper} {rest : List Oper} {o : Oper} {a : Act} {Q : Exit → Act → World → Prop} (hgd : o.guard = none) (s x : Operand) (t : TypeId)
    (ho : o.op = .call { callee := .builtin .append, args := #[s, x], argTypes := #[t, t] })
    (e : TypeId) (i : TypeInfo) (z : Value) (bytes : Nat) (ht : P.underlying t = some (.slice e)) (hi : P.info? e = some i) (hz : i.zero = some z) (hsize : i.size = 1) (hby : i.bytes = bytes) (hzs : z.cells.size = 1)
    (A : Option Addr) (n c : Nat) (xs : List Int) (hs : a.eval s = .slice A n c) (hn : n = xs.length) (hw : WRow w A c xs) (ad : Addr) (y : Int) (hx : a.eval x = .slice (some ad) 1 1) (hy : w.cell? ad = some (.int .i64 y))
    (h63 : n + 1 ≤ maxLen) (hbytes : (n + 1) * bytes ≤ 140737488355328)
    (h : ∀ A' c' w', WRow w' A' c' (xs ++ [y]) → w.grownBy w' (blkO A) → (∀ a', A' = some a' → blkO A = some a'.block ∨ w.heap.size ≤ a'.block) → wpList P ops Q rest (a.put o.dst (.slice A' (n + 1) c')) w') : wpList P ops Q (o :: rest) a w := by
  subst hn
  have hnews : ∀ j u, [Value.int .i64 y][j]? = some u → w.cell? (ad.add j) = some u := by
    intro j u hu
    rcases j with _ | j
    · simp at hu; subst hu
      have : ad.add 0 = ad := by unfold Addr.add; simp
      rw [this]; exact hy
    · simp at hu
  have holds : ∀ b, A = some b → ∀ j u, (xs.map (Value.int .i64))[j]? = some u → w.cell? (b.add j) = some u := by
    intro b hb j u hu
    obtain ⟨g, o', e', _, h1, _⟩ := hw.2.2.2 b hb
    rw [List.getElem?_map] at hu
    cases hxj : xs[j]? with
    | none => rw [hxj] at hu; cases hu
    | some v =>
      rw [hxj] at hu
      simp at hu
      subst hu e'
      rw [add_at]
      exact h1 j v hxj
  by_cases hr : xs.length + 1 ≤ c
  · obtain ⟨b, hb⟩ : ∃ b, A = some b := by
      cases A with
      | none => have := hw.2.2.1 rfl; omega
      | some b => exact ⟨b, rfl⟩
    obtain ⟨g, o', e', hg, h1, h2⟩ := hw.2.2.2 b hb
    subst e' hb
    refine wpList_append_arg w hgd s x t ho e i z 1 bytes ht hi hz hsize hby hzs (by decide) g o' xs.length c (xs.map (Value.int .i64)) hs (by simp) (fun j u hu => by have := holds _ rfl j u hu; rwa [add_at] at this) ad 1 1 [.int .i64 y] hx rfl hnews (by simp [Value.oneCell'])
      (fun _ j hj => by
        simp at hj
        subst hj
        have := h2 xs.length (by omega)
        simpa using this) h63 hbytes (fun _ => ?_) (fun hcon => absurd hr (by omega))
    have hgr := setCells_row g [Value.int .i64 y] (o' + xs.length * 1) w
    refine h (some ⟨g, o', none⟩) c _ ⟨by simpa using hr, hw.2.1, (fun e => by cases e), fun ad' ha => ?_⟩ hgr (fun a' ha => ?_)
    · injection ha with ha
      subst ha
      refine ⟨g, o', rfl, Nat.lt_of_lt_of_le hg hgr.size, fun t v hv => ?_, fun t ht => ?_⟩
      · rcases (by have := get_lt hv; simp at this; omega : t < xs.length ∨ t = xs.length) with ht | rfl
        · rw [List.getElem?_append_left ht] at hv
          rw [World.cell?_setCells_out g _ _ w _ (fun _ _ => by simp; omega)]
          exact h1 t v hv
        · rw [List.getElem?_append_right (Nat.le_refl _), Nat.sub_self] at hv
          simp at hv
          subst hv
          have := World.cell?_setCells_in g [Value.int .i64 y] (o' + xs.length * 1) w (fun j hj => by
            simp at hj
            subst hj
            simpa using (h2 xs.length (by omega)).1) 0 (by simp)
          simpa using this
      · rw [World.frozen?_setCells]
        refine ⟨?_, (h2 t ht).2⟩
        by_cases e2 : t = xs.length
        · subst e2
          have := World.cell?_setCells_in g [Value.int .i64 y] (o' + xs.length * 1) w (fun j hj => by
            simp at hj
            subst hj
            simpa using (h2 xs.length (by omega)).1) 0 (by simp)
          simp only [Nat.mul_one, Nat.add_zero] at this ⊢
          rw [this]; rfl
        · rw [World.cell?_setCells_out g _ _ w _ (fun _ _ => by simp; omega)]
          exact (h2 t ht).1
    · injection ha with ha
      subst ha
      exact .inl rfl
  · have hl := hw.1
    refine wpList_append_grows w hgd s x t ho e i z 1 bytes ht hi hz hsize hby hzs (by decide) A xs.length c (xs.map (Value.int .i64)) hs (fun ha => by have := hw.2.2.1 ha; omega) (by simp) holds ad 1 1 [.int .i64 y] hx rfl hnews (by simp [Value.oneCell']) (by omega) h63 hbytes fun v' w' hown hgr => ?_
    obtain ⟨hlen, ⟨rfl, h0⟩ | ⟨g, cap, cur, rfl, hb, hg, hc, hm, hcs, htk⟩⟩ := hown
    · omega
    · refine h (some ⟨g, 0, none⟩) cap w' ⟨by simpa using hc, hm, (fun e => by cases e), fun ad' ha => ?_⟩ ⟨hgr.os, hgr.tape, hgr.output, hgr.size, fun k hk _ => hgr.block k hk (by simp)⟩ (fun a' ha => ?_)
      · injection ha with ha
        subst ha
        refine ⟨g, 0, rfl, blk_lt hg, fun t v hv => ?_, fun t ht => ?_⟩
        · have htl := get_lt hv
          simp at htl
          rw [Nat.zero_add, cell_row hg, ← Array.getElem?_toList]
          have e2 : (xs.map (Value.int .i64) ++ [Value.int .i64 y])[t]? = some (.int .i64 v) := by
            rw [show xs.map (Value.int .i64) ++ [Value.int .i64 y] = (xs ++ [y]).map (Value.int .i64) by simp, List.getElem?_map, hv]; rfl
          rw [← htk, List.getElem?_take, if_pos (by omega)] at e2
          exact e2
        · rw [Nat.zero_add]
          refine ⟨?_, free_row hg⟩
          rw [cell_row hg, Array.getElem?_eq_getElem (by omega)]
          rfl
      · injection ha with ha
        subst ha
        exact .inr hb
end

/-- A row of such rows: the numbers of the increments of each belt. -/
def Wnt (w : World) (gw : Nat) (P : Nat → Prop) (Q : List (List IncR)) : Prop :=
  ∃ cur : Array Value, w.heap[gw]? = some (.cells cur 22 (0, 0)) ∧ cur.size = Q.length ∧ ∃ (V : Nat → Option Addr) (C : Nat → Nat),
    (∀ (j : Nat) (q : List IncR), Q[j]? = some q → cur[j]? = some (.slice (V j) q.length (C j)) ∧ WRow w (V j) (C j) (q.map fun i => i.sq) ∧ ∀ x, blkO (V j) = some x → gw < x ∧ P x) ∧
    ∀ i j x, i ≠ j → i < Q.length → j < Q.length → blkO (V i) = some x → blkO (V j) ≠ some x
theorem blkO_some {A : Option Addr} {ad : Addr} (h : A = some ad) : blkO A = some ad.block := by rw [h]; rfl
theorem Wnt.keep {w w' : World} {gw : Nat} {P P' : Nat → Prop} {Q : List (List IncR)} (h : Wnt w gw P Q) (hs : w.heap.size ≤ w'.heap.size) (hk : ∀ g, gw ≤ g → g < w.heap.size → w'.heap[g]? = w.heap[g]?) (hp : ∀ x, x < w.heap.size → P x → P' x) : Wnt w' gw P' Q := by
  obtain ⟨cur, h1, h2, V, C, h3, h4⟩ := h
  refine ⟨cur, (hk gw (Nat.le_refl _) (blk_lt h1)).trans h1, h2, V, C, fun j q hj => ?_, h4⟩
  obtain ⟨a1, a2, a3⟩ := h3 j q hj
  refine ⟨a1, a2.keep hs fun ad ha => ?_, fun x hx => ⟨(a3 x hx).1, ?_⟩⟩
  · obtain ⟨g, o, e, hg, _⟩ := a2.2.2.2 ad ha
    have := (a3 _ (blkO_some ha)).1
    rw [e] at this ⊢
    exact hk g (Nat.le_of_lt this) hg
  · cases hv : V j with
    | none => rw [hv] at hx; cases hx
    | some ad =>
      obtain ⟨g, o, e, hg, _⟩ := a2.2.2.2 ad hv
      have e2 : x = g := by rw [hv, e] at hx; simp [blkO] at hx; exact hx.symm
      exact hp x (by omega) (a3 x (by rw [hv] at hx ⊢; exact hx)).2
theorem Wnt.get {w : World} {gw t : Nat} {P : Nat → Prop} {Q : List (List IncR)} {q : List IncR} (h : Wnt w gw P Q) (ht : Q[t]? = some q) :
    ∃ A c, w.cell? ⟨gw, t, none⟩ = some (.slice A q.length c) ∧ w.frozen? ⟨gw, t, none⟩ = false ∧ gw < w.heap.size ∧ WRow w A c (q.map fun i => i.sq) ∧ (∀ x, blkO A = some x → gw < x ∧ P x) ∧
      ∀ w' A' c' (q' : List IncR) (P' : Nat → Prop), w.heap.size ≤ w'.heap.size → (∀ g, gw ≤ g → g < w.heap.size → blkO A ≠ some g → w'.heap[g]? = w.heap[g]?) → WRow w' A' c' (q'.map fun i => i.sq) →
        (∀ x, blkO A' = some x → gw < x ∧ P' x ∧ (blkO A = some x ∨ w.heap.size ≤ x)) → (∀ x, x < w.heap.size → P x → P' x) →
        w'.cell? ⟨gw, t, none⟩ = some (.slice A q.length c) ∧ w'.frozen? ⟨gw, t, none⟩ = false ∧ gw < w'.heap.size ∧ Wnt (w'.setCell ⟨gw, t, none⟩ (.slice A' q'.length c')) gw P' (Q.set t q') := by
  obtain ⟨cur, h1, h2, V, C, h3, h4⟩ := h
  have htl := get_lt ht
  obtain ⟨a1, a2, a3⟩ := h3 t q ht
  have blk_in : ∀ j x, j < Q.length → blkO (V j) = some x → x < w.heap.size := by
    intro j x hj hx
    obtain ⟨qj, hqj⟩ := nth_of hj
    obtain ⟨_, b2, _⟩ := h3 j qj hqj
    cases hv : V j with
    | none => rw [hv] at hx; cases hx
    | some ad =>
      obtain ⟨g, o, e, hg, _⟩ := b2.2.2.2 ad hv
      rw [hv, e] at hx; simp [blkO] at hx
      omega
  refine ⟨V t, C t, (cell_row h1).trans a1, free_row h1, blk_lt h1, a2, a3, fun w' A' c' q' P' hs hk hw' hb' hp => ?_⟩
  have hgw : blkO (V t) ≠ some gw := fun e => by have := (a3 gw e).1; omega
  have h1' : w'.heap[gw]? = some (.cells cur 22 (0, 0)) := (hk gw (Nat.le_refl _) (blk_lt h1) hgw).trans h1
  refine ⟨(cell_row h1').trans a1, free_row h1', blk_lt h1', cur.setIfInBounds t (.slice A' q'.length c'), ?_, by simpa using h2, fun j => if j = t then A' else V j, fun j => if j = t then c' else C j, fun j x hj => ?_, fun i j x hij hi hj => ?_⟩
  · simp [World.setCell, Array.getElem?_modify, h1']
  · have hjl := get_lt hj
    simp at hjl
    have hfar : ∀ g, g ≠ gw → (w'.setCell ⟨gw, t, none⟩ (.slice A' q'.length c')).heap[g]? = w'.heap[g]? := fun g hg => Below.heap_setCell w' ⟨gw, t, none⟩ _ g hg
    by_cases e : j = t
    · subst e
      rw [List.getElem?_set_self htl] at hj
      injection hj with hj
      subst hj
      simp only [if_pos]
      refine ⟨by rw [Array.getElem?_setIfInBounds, if_pos rfl, if_pos (by omega)], hw'.keep (by simp) fun ad ha => hfar _ (fun e => by have := (hb' _ (blkO_some ha)).1; omega), fun x hx => ⟨(hb' x hx).1, (hb' x hx).2.1⟩⟩
    · rw [List.getElem?_set_ne (fun x => e x.symm)] at hj
      simp only [if_neg e]
      obtain ⟨b1, b2, b3⟩ := h3 j x hj
      refine ⟨by rw [Array.getElem?_setIfInBounds, if_neg (fun x => e x.symm)]; exact b1, b2.keep (Nat.le_trans hs (by simp)) fun ad ha => ?_, fun y hy => ⟨(b3 y hy).1, hp y (blk_in j y hjl hy) (b3 y hy).2⟩⟩
      have hbk := blkO_some ha
      have hlt := (b3 _ hbk).1
      rw [hfar _ (by omega)]
      exact hk _ (Nat.le_of_lt hlt) (blk_in j _ hjl hbk) (fun e2 => h4 t j _ (fun x => e x.symm) htl hjl e2 hbk)
  · simp at hi hj
    by_cases e : i = t
    · subst e
      simp only [if_pos]
      rw [if_neg (fun e2 => hij e2.symm)]
      intro hx hx2
      rcases (hb' x hx).2.2 with h | h
      · exact h4 i j x hij hi hj h hx2
      · have := blk_in j x hj hx2; omega
    · simp only [if_neg e]
      by_cases e2 : j = t
      · subst e2
        simp only [if_pos]
        intro hx hx2
        rcases (hb' x hx2).2.2 with h | h
        · exact h4 i j x hij hi hj hx h
        · have := blk_in i x hi hx; omega
      · simp only [if_neg e2]
        exact h4 i j x hij hi hj
end Go.Proofs.YtmhbbjbbckdlbaaDoor
namespace Go.Proofs.YtmhbbjbbckdlbaaDoor
open Go.RowKit
set_option maxRecDepth 100000
set_option linter.unusedVariables false

/-- The slice at A (capacity c) holds the numbers S, in a block of which P is true. -/
def SArr (w : World) (P : Nat → Prop) (A : Option Addr) (c : Nat) (S : List Int) : Prop :=
  S.length ≤ c ∧ c ≤ maxLen ∧ (A = none → c = 0) ∧ (0 < S.length → ∃ b o, A = some ⟨b, o, none⟩ ∧ P b ∧ ∀ (j : Nat) (s : Int), S[j]? = some s → w.cell? ⟨b, o + j, none⟩ = some (.int .i64 s))
section
variable {w w' : World} {P P' : Nat → Prop} {A : Option Addr} {c : Nat} {S : List Int}
theorem SArr.at_ (h : SArr w P A c S) {j : Nat} {s : Int} (hj : S[j]? = some s) : ∃ b o, A = some ⟨b, o, none⟩ ∧ P b ∧ b < w.heap.size ∧ w.cell? ⟨b, o + j, none⟩ = some (.int .i64 s) := by
  obtain ⟨b, o, hA, hb, hc⟩ := h.2.2.2 (by have := get_lt hj; omega)
  exact ⟨b, o, hA, hb, cell_lt (hc j s hj), hc j s hj⟩
theorem SArr.keep (h : SArr w P A c S) (hk : ∀ b o, P b → w'.cell? ⟨b, o, none⟩ = w.cell? ⟨b, o, none⟩) : SArr w' P A c S := by
  refine ⟨h.1, h.2.1, h.2.2.1, fun hn => ?_⟩
  obtain ⟨b, o, hA, hb, hc⟩ := h.2.2.2 hn
  exact ⟨b, o, hA, hb, fun j s hj => (hk _ _ hb).trans (hc j s hj)⟩
theorem SArr.mono (h : SArr w P A c S) (hp : ∀ b, P b → P' b) : SArr w P' A c S := by
  refine ⟨h.1, h.2.1, h.2.2.1, fun hn => ?_⟩
  obtain ⟨b, o, hA, hb, hc⟩ := h.2.2.2 hn
  exact ⟨b, o, hA, hp b hb, hc⟩
theorem SArr.nil (w : World) (P : Nat → Prop) : SArr w P none 0 [] := ⟨by simp, by simp, fun _ => rfl, fun h => absurd h (by simp)⟩
theorem SArr.below {B : Nat} (h : SArr w (Lt B) A c S) (hb : Below B w w') : SArr w' (Lt B) A c S := h.keep fun b o hp => hb.cell hp
theorem SArr.next (h : SArr w (Lt w.heap.size) A c S) (hb : Below w.heap.size w w') : SArr w' (Lt w'.heap.size) A c S := (h.below hb).mono fun b hp => Nat.lt_of_lt_of_le hp hb.size
theorem SArr.lt (h : SArr w P A c S) : SArr w (Lt w.heap.size) A c S := by
  refine ⟨h.1, h.2.1, h.2.2.1, fun hn => ?_⟩
  obtain ⟨b, o, hA, hb, hc⟩ := h.2.2.2 hn
  obtain ⟨i, hi⟩ : ∃ i, S[0]? = some i := ⟨S[0], List.getElem?_eq_getElem hn⟩
  exact ⟨b, o, hA, cell_lt (hc 0 i hi), hc⟩
theorem SArr.take (h : SArr w P A c S) (k : Nat) : SArr w P A c (S.take k) := by
  refine ⟨Nat.le_trans (by simp; omega) h.1, h.2.1, h.2.2.1, fun hn => ?_⟩
  obtain ⟨b, o, hA, hb, hc⟩ := h.2.2.2 (by simp at hn; omega)
  exact ⟨b, o, hA, hb, fun j s hj => hc j s (by rw [List.getElem?_take] at hj; split at hj; exact hj; cases hj)⟩
theorem LArr.take {I : List IncR} (h : LArr w P A c I) (k : Nat) : LArr w P A c (I.take k) := by
  refine ⟨Nat.le_trans (by simp; omega) h.1, h.2.1, h.2.2.1, fun hn => ?_⟩
  obtain ⟨b, o, hA, hb, hc⟩ := h.2.2.2 (by simp at hn; omega)
  exact ⟨b, o, hA, hb, fun j s hj => hc j s (by rw [List.getElem?_take] at hj; split at hj; exact hj; cases hj)⟩
/-- The cells of a row of numbers. -/
def numC (S : List Int) : List Value := S.map fun s => .int .i64 s
theorem numC_length (S : List Int) : (numC S).length = S.length := by simp [numC]
theorem numC_append (S T : List Int) : numC (S ++ T) = numC S ++ numC T := by simp [numC]
theorem numC_one (S : List Int) : ∀ u ∈ numC S, u.oneCell' = true := by
  intro u hu
  simp only [numC, List.mem_map] at hu
  obtain ⟨s, _, rfl⟩ := hu
  rfl
theorem numC_get {S : List Int} {j : Nat} {s : Int} (h : S[j]? = some s) : (numC S)[j]? = some (.int .i64 s) := by simp [numC, h]
theorem SArr.cells {b o : Nat} (h : SArr w P (some ⟨b, o, none⟩) c S) : ∀ (j : Nat) (u : Value), (numC S)[j]? = some u → w.cell? ((⟨b, o, none⟩ : Addr).add j) = some u := by
  intro j u hu
  have hj := get_lt hu
  rw [numC_length] at hj
  obtain ⟨s, hs⟩ := (show ∃ s, S[j]? = some s from ⟨S[j], List.getElem?_eq_getElem hj⟩)
  obtain ⟨b', o', e, _, hc⟩ := h.2.2.2 (by omega)
  injection e with e
  injection e with e1 e2
  subst e1 e2
  rw [numC_get hs] at hu
  injection hu with hu
  rw [add_at, ← hu]
  exact hc j s hs
theorem sarr_of {B : Nat} {v : Value} (h : w.ownsRow B 3 1 v S.length (numC S)) : ∃ A c, v = .slice A S.length c ∧ SArr w (Rng B w.heap.size) A c S := by
  obtain ⟨hl, h⟩ := h
  rcases h with ⟨rfl, hz⟩ | ⟨g, cap, cur, rfl, hb, hg, hc, hm, hs, htk⟩
  · have hz2 : S = [] := List.length_eq_zero_iff.1 hz
    subst hz2
    exact ⟨none, 0, rfl, SArr.nil _ _⟩
  · refine ⟨_, _, rfl, hc, hm, (fun e => by cases e), fun _ => ⟨g, 0, rfl, ⟨hb, blk_lt hg⟩, fun j s hj => ?_⟩⟩
    have hjl := get_lt hj
    have hv := numC_get hj
    rw [← htk, List.getElem?_take, if_pos (by omega)] at hv
    rw [cell_row hg, Nat.zero_add]
    simpa using hv
end

theorem sarr_list {w : World} {B n c : Nat} {x : Addr} (h : ListP w B (some x) n c) : ∃ S : List Int, S.length = n ∧ SArr w (Lt B) (some x) c S := by
  have key : ∀ m, m ≤ n → ∃ S : List Int, S.length = m ∧ ∀ (j : Nat) (s : Int), S[j]? = some s → ∃ b o, x = ⟨b, o, none⟩ ∧ b < B ∧ w.cell? ⟨b, o + j, none⟩ = some (.int .i64 s) := by
    intro m
    induction m with
    | zero => exact fun _ => ⟨[], rfl, fun j s hj => by simp at hj⟩
    | succ m ih =>
      intro hm
      obtain ⟨S, h1, h2⟩ := ih (by omega)
      obtain ⟨b, o, v, e, hb, hc, _⟩ := h.2.2 m (by omega)
      injection e with e
      refine ⟨S ++ [v], by simp [h1], fun j s hj => ?_⟩
      rcases Nat.lt_or_ge j S.length with hl | hl
      · rw [List.getElem?_append_left hl] at hj
        exact h2 j s hj
      · rw [List.getElem?_append_right hl] at hj
        have := get_lt hj
        simp at this
        have hjm : j = m := by omega
        subst hjm
        rw [h1, Nat.sub_self] at hj
        simp at hj
        subst hj
        exact ⟨b, o, e, hb, hc⟩
  obtain ⟨S, h1, h2⟩ := key n (Nat.le_refl _)
  refine ⟨S, h1, by rw [h1]; exact h.1, h.2.1, (fun e => by cases e), fun hn => ?_⟩
  obtain ⟨s, hs⟩ : ∃ s, S[0]? = some s := ⟨S[0], List.getElem?_eq_getElem hn⟩
  obtain ⟨b, o, e, hb, _⟩ := h2 0 s hs
  refine ⟨b, o, by rw [e], hb, fun j r hj => ?_⟩
  obtain ⟨b', o', e', _, hc⟩ := h2 j r hj
  rw [e] at e'
  injection e' with e1 e2
  subst e1 e2
  exact hc
section
variable {P : Program} (w : World)
/-- append of numbers that may be read to a row of the call's own. -/
theorem wpList_append_sarr {ops : Array Oper} {rest : List Oper} {o : Oper} {a : Act} {Q : Exit → Act → World → Prop} (hgd : o.guard = none) (s x : Operand) (t : TypeId)
    (ho : o.op = .call { callee := .builtin .append, args := #[s, x], argTypes := #[t, t] })
    (base : Nat) (e : TypeId) (i : TypeInfo) (z : Value) (bytes : Nat) (ht : P.underlying t = some (.slice e)) (hi : P.info? e = some i) (hz : i.zero = some z) (hsize : i.size = 1) (hby : i.bytes = bytes) (hzs : z.cells.size = 1)
    (v : Value) (n : Nat) (xs : List Value) (hs : a.eval s = v) (hown : w.ownsRow base e 1 v n xs) (A : Option Addr) (m c : Nat) (S : List Int) (Pb : Nat → Prop) (hx : a.eval x = .slice A m c) (hm : m = S.length) (hS : SArr w Pb A c S)
    (h63 : n + m ≤ maxLen) (hbytes : (n + m) * bytes ≤ 140737488355328) (hbase : base ≤ w.heap.size)
    (h : ∀ v' w', w'.ownsRow base e 1 v' (n + m) (xs ++ numC S) → w.grownBy w' v.ownBlock → wpList P ops Q rest (a.put o.dst v') w') : wpList P ops Q (o :: rest) a w := by
  subst hm
  rcases A with _ | ad
  · have hc := hS.2.2.1 rfl
    have hl := hS.1
    have hI : S = [] := List.length_eq_zero_iff.1 (by omega)
    subst hI hc
    refine wpList_append_own_none hgd s x t ho base e i 1 ht hi v n xs hs hown hx ?_
    exact h v w (by simpa [numC] using hown) ⟨rfl, rfl, rfl, Nat.le_refl _, fun _ _ _ => rfl⟩
  · have hcs : ∀ (j : Nat) (u : Value), (numC S)[j]? = some u → w.cell? (ad.add j) = some u := by
      intro j u hu
      have hj := get_lt hu
      rw [numC_length] at hj
      obtain ⟨b, o, e, _⟩ := hS.2.2.2 (by omega)
      injection e with e
      subst e
      exact hS.cells j u hu
    exact wpList_append_own w hgd s x t ho base e i z 1 bytes ht hi hz hsize hby hzs (by decide) v n xs hs hown ad S.length c (numC S) hx (by rw [numC_length, Nat.mul_one]) hcs (numC_one S) h63 hbytes hbase fun v' w' h1 h2 _ => h v' w' h1 h2
end
theorem flat_next {α : Type} {Q : List (List α)} {t : Nat} {q : List α} (h : Q[t]? = some q) : (Q.take (t + 1)).flatten = (Q.take t).flatten ++ q := by
  rw [List.take_add_one, h]
  simp
theorem flat_len {α : Type} (Q : List (List α)) (t : Nat) : (Q.take t).flatten.length ≤ Q.flatten.length := by
  have h := congrArg (fun l => l.flatten.length) (List.take_append_drop t Q)
  simp only [List.flatten_append, List.length_append] at h
  omega
theorem row_blk {w : World} {B s n : Nat} {e : TypeId} {v : Value} {xs : List Value} (h : w.ownsRow B e s v n xs) : ∀ x, v.ownBlock = some x → B ≤ x := fun x hx => (h.lt x hx).1

end Go.Proofs.YtmhbbjbbckdlbaaDoor
