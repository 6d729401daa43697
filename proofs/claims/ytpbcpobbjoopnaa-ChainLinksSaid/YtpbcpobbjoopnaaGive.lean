/-
  Contract of package pool: Give.
-/
import Derived.Test.YtpbcpobbjoopnaaTake
import Derived.StillTailTactics
import Derived.Deep.CutBlock
import Derived.Deep.DeepCutAuto
import Derived.RegionTactic
namespace Go.Proofs.Ytpbcpobbjoopnaa
open Go.RowKit
set_option maxRecDepth 100000
set_option linter.unusedVariables false

/-- What Give makes of the frames below t, and of their words. -/
def giveF (F : Nat → Fr) (o : Int) (t : Nat) : Nat → Fr := fun j => if j < t ∧ (F j).ow = o then frFree else F j
def giveW (wd : Nat → Int) (F : Nat → Fr) (o : Int) (k t : Nat) : Nat → Int := fun a => if a / 2 ^ k < t ∧ (F (a / 2 ^ k)).ow = o then 0 else wd a

noncomputable def giveE (s : Int) (nw : Nat) (wd : Nat → Int) (n : Nat) (F : Nat → Fr) (o : Int) : Int :=
  if (validB s nw wd n F && okO o) = false then 1 else if cntP (owB F o) n = 0 then 5 else 0
/-- What Give answers. -/
def GiveOut (s : Int) (nw : Nat) (wd : Nat → Int) (n : Nat) (F : Nat → Fr) (o : Int) (w : World) (e : Ending) (w' : World) : Prop :=
  (∃ x : Int, giveE s nw wd n F o = x ∧ x ≠ 0 ∧ e = .returned (.tuple #[zSp, .int .i64 0, .int .i64 x]) ∧ Below w.heap.size w w') ∨
  (giveE s nw wd n F o = 0 ∧ ∃ (A1 : Option Addr) (c1 g c2 : Nat), e = .returned (.tuple #[.agg #[.int .i64 s, .slice A1 nw c1, .slice (some ⟨g, 0, none⟩) n c2], .int .i64 (cntP (owB F o) n : Nat), .int .i64 0]) ∧
    Own w' w.heap.size A1 nw c1 (giveW wd F o s.toNat n) ∧ OwnT w' w.heap.size (some ⟨g, 0, none⟩) n c2 (giveF F o n) ∧ Below w.heap.size w w')
theorem give_bad {s : Int} {nw : Nat} {wd : Nat → Int} {n : Nat} {F : Nat → Fr} {o : Int} {w w' : World} (h : (validB s nw wd n F && okO o) = false) (hb : Below w.heap.size w w') :
    GiveOut s nw wd n F o w (.returned (.tuple #[zSp, .int .i64 0, .int .i64 1])) w' :=
  .inl ⟨1, by unfold giveE; rw [if_pos h], by decide, rfl, hb⟩
theorem give_none {s : Int} {nw : Nat} {wd : Nat → Int} {n : Nat} {F : Nat → Fr} {o : Int} {w w' : World} (h : (validB s nw wd n F && okO o) = true) (h3 : cntP (owB F o) n = 0) (hb : Below w.heap.size w w') :
    GiveOut s nw wd n F o w (.returned (.tuple #[zSp, .int .i64 0, .int .i64 5])) w' :=
  .inl ⟨5, by unfold giveE; rw [if_neg (by rw [h]; decide), if_pos h3], by decide, rfl, hb⟩
theorem give_ok {s : Int} {nw : Nat} {wd : Nat → Int} {n : Nat} {F : Nat → Fr} {o : Int} (h : (validB s nw wd n F && okO o) = true) (h3 : cntP (owB F o) n ≠ 0) : giveE s nw wd n F o = 0 := by
  unfold giveE; rw [if_neg (by rw [h]; decide), if_neg h3]

theorem cut_bounds {k n i nw : Nat} (hk : k ≤ 8) (hi : i < n) (hn : n ≤ 64) (h : nw = n * 2 ^ k) : i * 2 ^ k + 2 ^ k ≤ nw ∧ 0 < 2 ^ k ∧ nw ≤ 16384 := by
  have h1 : (i + 1) * 2 ^ k ≤ n * 2 ^ k := Nat.mul_le_mul_right _ hi
  rw [Nat.add_mul, Nat.one_mul] at h1
  exact ⟨by omega, Nat.pow_pos (by decide), by rw [h]; exact prod_le hn hk⟩
theorem shifts (i k : Nat) : (i : Int) * 2 ^ k = ((i * 2 ^ k : Nat) : Int) ∧ ((i : Int) + 1) * 2 ^ k = ((i * 2 ^ k + 2 ^ k : Nat) : Int) := by
  have h : (i : Int) * 2 ^ k = ((i * 2 ^ k : Nat) : Int) := by simp
  exact ⟨h, by rw [Int.add_mul, Int.one_mul, h]; simp⟩
theorem own_apart {w : World} {base base' nw c n c2 g x : Nat} {wd : Nat → Int} {F : Nat → Fr} (h : Own w base (some ⟨x, 0, none⟩) nw c wd) (hT : OwnT w base' (some ⟨g, 0, none⟩) n c2 F) : x ≠ g := by
  obtain ⟨h1, h2, ⟨h3, _⟩ | ⟨y, cur, hA, hb, hy, hs⟩⟩ := h
  · cases h3
  · injection hA with hA
    injection hA with hA
    subst hA
    obtain ⟨_, _, ⟨h4, _⟩ | ⟨g', cur', hA, _, hg, _⟩⟩ := hT
    · cases h4
    · injection hA with hA
      injection hA with hA
      subst hA
      intro e
      subst e
      rw [hy] at hg
      injection hg with hg
      injection hg with _ hg _
      revert hg
      decide

theorem lstP_prefix (p : Nat → Bool) {m n : Nat} (h : m ≤ n) : ∃ r, lstP p n = lstP p m ++ r := by
  induction n with
  | zero => obtain rfl : m = 0 := by omega
            exact ⟨[], by simp⟩
  | succ n ih =>
    rcases (show m ≤ n ∨ m = n + 1 by omega) with h1 | rfl
    · obtain ⟨r, hr⟩ := ih h1
      exact ⟨r ++ (if p n then [n] else []), by simp only [lstP]; rw [hr, List.append_assoc]⟩
    · exact ⟨[], by simp⟩
/-- The j-th member of a set: the least from t on, where j lie below t. -/
theorem nth_member (p : Nat → Bool) {t j n : Nat} (ht : t ≤ n) (hj : cntP p t = j) (hlt : j < cntP p n) :
    ∃ i, t ≤ i ∧ i < n ∧ p i = true ∧ (∀ q, t ≤ q → q < i → p q = false) ∧ numF (lstP p n) j = i ∧ cntP p (i + 1) = j + 1 := by
  have h0 : setP (fromP p t) n ≠ 0 := fun e => by
    have h := lstP_done p ht e
    have : cntP p n = cntP p t := by rw [← lstP_length, ← lstP_length, h]
    omega
  obtain ⟨i, h1, h2, h3, h4⟩ := lowest p h0
  refine ⟨i, h1, h2, h3, h4, ?_, by rw [cntP_next p h1 h3 h4, hj]⟩
  obtain ⟨r, hr⟩ := lstP_prefix p (show i + 1 ≤ n by omega)
  rw [lstP_next p h1 h3 h4] at hr
  have hl : (lstP p t).length = j := by rw [lstP_length, hj]
  unfold numF
  have h5 : (lstP p n)[j]? = some i := by
    rw [hr, List.append_assoc, List.getElem?_append_right (by omega), hl, Nat.sub_self]
    rfl
  rw [List.getD_eq_getElem?_getD, h5]
  rfl

theorem below_fill {B g : Nat} (hg : B ≤ g) : ∀ (vs : List Value) (o : Nat) (w : World), Below B w (w.setCells g o vs)
  | [], _, w => Below.refl B w
  | v :: r, o, w => ((Below.refl B w).setCell (p := ⟨g, o, none⟩) hg v).trans (below_fill hg r (o + 1) _)
theorem heap_fill {g b : Nat} (hne : b ≠ g) : ∀ (vs : List Value) (o : Nat) (w : World), (w.setCells g o vs).heap[b]? = w.heap[b]?
  | [], _, _ => rfl
  | v :: r, o, w => (heap_fill hne r (o + 1) _).trans (Below.heap_setCell w ⟨g, o, none⟩ v b hne)
theorem Blk.fill {w : World} {g b o : Nat} {t : TypeId} {cs : Array Value} (h : Blk w b t cs) (hne : b ≠ g) (vs : List Value) : Blk (w.setCells g o vs) b t cs := (heap_fill hne vs o w).trans h
theorem OwnT.fill {w : World} {base n c x g o : Nat} {F : Nat → Fr} (h : OwnT w base (some ⟨x, 0, none⟩) n c F) (hne : x ≠ g) (vs : List Value) : OwnT (w.setCells g o vs) base (some ⟨x, 0, none⟩) n c F := by
  obtain ⟨h1, h2, ⟨h3, _⟩ | ⟨y, cur, hA, hb, hy, hs⟩⟩ := h
  · cases h3
  · injection hA with hA
    injection hA with hA
    subst hA
    exact ⟨h1, h2, .inr ⟨x, cur, rfl, hb, (heap_fill hne vs o w).trans hy, hs⟩⟩
theorem Own.fill {base n c g : Nat} : ∀ (m o : Nat) (w : World) (f : Nat → Int), Own w base (some ⟨g, 0, none⟩) n c f → o + m ≤ n →
    Own (w.setCells g o (List.replicate m (.int .u64 0))) base (some ⟨g, 0, none⟩) n c (fun a => if o ≤ a ∧ a < o + m then 0 else f a)
  | 0, o, w, f, h, _ => h.congr (fun j _ => by rw [if_neg (by omega)])
  | m + 1, o, w, f, h, hm => by
    obtain ⟨g', hA, _, _, _, _, h1⟩ := h.spot o (by omega) 0
    injection hA with hA
    injection hA with hA
    subst hA
    have h2 := Own.fill m (o + 1) _ _ h1 (by omega)
    refine Own.congr (show Own (w.setCells g o (List.replicate (m + 1) (.int .u64 0))) base (some ⟨g, 0, none⟩) n c _ from h2) (fun j _ => ?_)
    by_cases e : j = o
    · subst e; rw [if_neg (by omega), if_pos rfl, if_pos (by omega)]
    · by_cases e2 : o + 1 ≤ j ∧ j < o + 1 + m
      · rw [if_pos e2, if_pos (by omega)]
      · rw [if_neg e2, if_neg e, if_neg (by omega)]

/-- One frame more. -/
theorem giveF_next {F : Nat → Fr} {o : Int} {t i : Nat} (h1 : t ≤ i) (h3 : owB F o i = true) (h4 : ∀ q, t ≤ q → q < i → owB F o q = false) (j : Nat) : (if j = i then frFree else giveF F o t j) = giveF F o (i + 1) j := by
  have h3' := of_decide_eq_true h3
  unfold giveF
  by_cases e : j = i
  · subst e; rw [if_pos rfl, if_pos ⟨by omega, h3'⟩]
  · rw [if_neg e]
    by_cases e2 : j < t ∧ (F j).ow = o
    · rw [if_pos e2, if_pos ⟨by omega, e2.2⟩]
    · rw [if_neg e2]
      by_cases e3 : j < i + 1 ∧ (F j).ow = o
      · exfalso
        have : ¬ j < t := fun h => e2 ⟨h, e3.2⟩
        have h5 := of_decide_eq_false (h4 j (by omega) (by omega))
        exact h5 e3.2
      · rw [if_neg e3]
theorem giveW_next {wd : Nat → Int} {F : Nat → Fr} {o : Int} {k t i : Nat} (h1 : t ≤ i) (h3 : owB F o i = true) (h4 : ∀ q, t ≤ q → q < i → owB F o q = false) (a : Nat) :
    (if i * 2 ^ k ≤ a ∧ a < i * 2 ^ k + 2 ^ k then 0 else giveW wd F o k t a) = giveW wd F o k (i + 1) a := by
  have h3' := of_decide_eq_true h3
  have hp : 0 < 2 ^ k := Nat.pow_pos (by decide)
  have key : (i * 2 ^ k ≤ a ∧ a < i * 2 ^ k + 2 ^ k) ↔ a / 2 ^ k = i := by
    constructor
    · rintro ⟨x, y⟩
      exact Nat.div_eq_of_lt_le x (by rw [Nat.add_mul, Nat.one_mul]; exact y)
    · intro e
      subst e
      have := Nat.div_add_mod a (2 ^ k)
      have := Nat.mod_lt a hp
      rw [Nat.mul_comm]
      omega
  unfold giveW
  by_cases e : a / 2 ^ k = i
  · rw [if_pos (key.2 e), if_pos ⟨by omega, by rw [e]; exact h3'⟩]
  · rw [if_neg (fun h => e (key.1 h))]
    by_cases e2 : a / 2 ^ k < t ∧ (F (a / 2 ^ k)).ow = o
    · rw [if_pos e2, if_pos ⟨by omega, e2.2⟩]
    · rw [if_neg e2]
      by_cases e3 : a / 2 ^ k < i + 1 ∧ (F (a / 2 ^ k)).ow = o
      · exfalso
        have : ¬ a / 2 ^ k < t := fun h => e2 ⟨h, e3.2⟩
        have h5 := of_decide_eq_false (h4 (a / 2 ^ k) (by omega) (by omega))
        exact h5 e3.2
      · rw [if_neg e3]
theorem giveW_all {wd : Nat → Int} {F : Nat → Fr} {o : Int} {k t n a : Nat} (ht : t ≤ n) (h : cntP (owB F o) t = cntP (owB F o) n) (ha : a < n * 2 ^ k) : giveW wd F o k t a = giveW wd F o k n a := by
  have hq : a / 2 ^ k < n := Nat.div_lt_of_lt_mul (by rw [Nat.mul_comm]; exact ha)
  unfold giveW
  by_cases e : a / 2 ^ k < t ∧ (F (a / 2 ^ k)).ow = o
  · rw [if_pos e, if_pos ⟨by omega, e.2⟩]
  · rw [if_neg e]
    by_cases e2 : (F (a / 2 ^ k)).ow = o
    · exfalso
      have h1 : cntP (owB F o) t ≤ cntP (owB F o) (a / 2 ^ k) := cntP_mono _ (by have : ¬ a / 2 ^ k < t := fun h => e ⟨h, e2⟩; omega)
      have h2 : cntP (owB F o) (a / 2 ^ k + 1) ≤ cntP (owB F o) n := cntP_mono _ (by omega)
      have h3 : cntP (owB F o) (a / 2 ^ k + 1) = cntP (owB F o) (a / 2 ^ k) + 1 := by simp only [cntP]; rw [owB_yes e2]; rfl
      omega
    · rw [if_neg (fun h => e2 h.2)]
theorem giveF_all {F : Nat → Fr} {o : Int} {t n j : Nat} (ht : t ≤ n) (h : cntP (owB F o) t = cntP (owB F o) n) (hj : j < n) : giveF F o t j = giveF F o n j := by
  unfold giveF
  by_cases e : j < t ∧ (F j).ow = o
  · rw [if_pos e, if_pos ⟨by omega, e.2⟩]
  · rw [if_neg e]
    by_cases e2 : (F j).ow = o
    · exfalso
      have h1 : cntP (owB F o) t ≤ cntP (owB F o) j := cntP_mono _ (by have : ¬ j < t := fun h => e ⟨h, e2⟩; omega)
      have h2 : cntP (owB F o) (j + 1) ≤ cntP (owB F o) n := cntP_mono _ (by omega)
      have h3 : cntP (owB F o) (j + 1) = cntP (owB F o) j + 1 := by simp only [cntP]; rw [owB_yes e2]; rfl
      omega
    · rw [if_neg (fun h => e2 h.2)]

/-- At the loop's head. -/
def GiveAt (s : Int) (nw : Nat) (wd : Nat → Int) (n : Nat) (F : Nat → Fr) (o : Int) (w : World) (V1 V2 : Value) (base bx g x c1 c2 : Nat) (GA : Option Addr) (gc : Nat) (iv : Value) (wr : World) : Prop :=
  ∃ t j : Nat, t ≤ n ∧ cntP (owB F o) t = j ∧ iv = .int .i64 j ∧ Own wr base (some ⟨x, 0, none⟩) nw c1 (giveW wd F o s.toNat t) ∧ OwnT wr base (some ⟨g, 0, none⟩) n c2 (giveF F o t) ∧
    Nums wr base GA (cntP (owB F o) n) gc (numF (lstP (owB F o) n)) ∧ Blk wr w.heap.size 25 #[.int .i64 s, V1, V2] ∧ Blk wr (w.heap.size + 1) 25 #[.int .i64 0, .slice none 0 0, .slice none 0 0] ∧
    Blk wr bx 25 #[.int .i64 s, .slice (some ⟨x, 0, none⟩) nw c1, .slice (some ⟨g, 0, none⟩) n c2] ∧ Below w.heap.size w wr

end Go.Proofs.Ytpbcpobbjoopnaa
