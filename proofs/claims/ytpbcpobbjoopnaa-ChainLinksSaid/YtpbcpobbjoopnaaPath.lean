/-
  Plain mathematics of layer 5: a chain as a list of frames, what a link needs, steps and places. Nothing here speaks of the program.
-/
import Derived.Test.YtpbcpobbjoopnaaChain
namespace Go.Proofs.Ytpbcpobbjoopnaa

/-- The frames of the chain from p, in their order. -/
def chL (F : Nat → Fr) (n p : Nat) : List Nat := path F (n + 1) p

section
variable {F : Nat → Fr} {n : Nat}

/-- A chain from p has m frames. -/
def LenP (F : Nat → Fr) (p : Int) (m : Nat) : Prop := iter F m p = -1 ∧ ∀ i, i < m → iter F i p ≠ -1

theorem least_end : ∀ (N : Nat) (f : Int), iter F N f = -1 → ∃ m, m ≤ N ∧ LenP F f m
  | 0, f, h => ⟨0, Nat.le_refl _, h, fun i hi => absurd hi (Nat.not_lt_zero i)⟩
  | N + 1, f, h => by
    by_cases e : iter F N f = -1
    · obtain ⟨m, h1, h2⟩ := least_end N f e
      exact ⟨m, by omega, h2⟩
    · refine ⟨N + 1, Nat.le_refl _, h, fun i hi e2 => e (iter_stay F e2 (by omega))⟩
theorem FV.len (h : FV F n) {p : Nat} (hp : p < n) : ∃ m, m ≤ n + 1 ∧ LenP F p m := least_end (n + 1) p (h.2.2 p hp)
theorem LenP.bound {p : Int} {m : Nat} (h : LenP F p m) (hv : FV F n) {q : Nat} (e : p = (q : Int)) (hq : q < n) : m ≤ n + 1 := by
  rcases Nat.lt_or_ge (n + 1) m with h1 | h1
  · subst e; exact absurd (hv.2.2 q hq) (h.2 _ h1)
  · exact h1
theorem LenP.pos {p : Nat} {m : Nat} (h : LenP F p m) : 0 < m := by
  rcases Nat.eq_zero_or_pos m with rfl | h1
  · have := h.1; simp only [iter] at this; omega
  · exact h1
theorem LenP.uniq {p : Int} {m m' : Nat} (h : LenP F p m) (h' : LenP F p m') : m = m' := by
  rcases Nat.lt_trichotomy m m' with h1 | h1 | h1
  · exact absurd h.1 (h'.2 m h1)
  · exact h1
  · exact absurd h'.1 (h.2 m' h1)
theorem chL_length {p m : Nat} (h : LenP F p m) (hm : m ≤ n + 1) : (chL F n p).length = m := path_length (n + 1) p m hm h.1 h.2

theorem path_get : ∀ (M : Nat) (f : Int) (m : Nat), m ≤ M → (∀ i, i < m → 0 ≤ iter F i f) → ∀ i, i < m → (path F M f)[i]? = some (iter F i f).toNat
  | 0, f, m, hm, _, i, hi => absurd hi (by omega)
  | M + 1, f, m, hm, hne, i, hi => by
    have h0 := hne 0 (by omega)
    simp only [iter] at h0
    have e : f ≠ -1 := by omega
    simp only [path, if_neg e]
    rcases i with _ | i
    · simp [iter]
    · have := path_get M (F f.toNat).nx (m - 1) (by omega) (fun j hj => by have := hne (j + 1) (by omega); simpa only [iter, if_neg e] using this) i (by omega)
      simpa only [List.getElem?_cons_succ, iter, if_neg e] using this

theorem FV.nonneg (h : FV F n) {p : Nat} (hp : p < n) {i : Nat} (hi : iter F i p ≠ -1) : 0 ≤ iter F i p ∧ iter F i p < n := by
  have := iter_in h.inside hp i; omega
theorem chL_get (h : FV F n) {p m : Nat} (hp : p < n) (hl : LenP F p m) {i : Nat} (hi : i < m) : (chL F n p)[i]? = some (iter F i p).toNat :=
  path_get (n + 1) p m (hl.bound h rfl hp) (fun j hj => (h.nonneg hp (hl.2 j hj)).1) i hi
theorem mem_chL (h : FV F n) {p : Nat} (hp : p < n) (x : Nat) : x ∈ chL F n p ↔ ∃ i, i < n + 1 ∧ iter F i p = (x : Int) :=
  mem_path (n + 1) p (by omega) (fun i => by have := iter_in h.inside hp i; omega) x
theorem mem_chL' (h : FV F n) {p m : Nat} (hp : p < n) (hl : LenP F p m) (x : Nat) : x ∈ chL F n p ↔ ∃ i, i < m ∧ iter F i p = (x : Int) := by
  rw [mem_chL h hp]
  constructor
  · rintro ⟨i, h1, h2⟩
    refine ⟨i, ?_, h2⟩
    rcases Nat.lt_or_ge i m with h3 | h3
    · exact h3
    · have := iter_stay F hl.1 h3; omega
  · rintro ⟨i, h1, h2⟩
    exact ⟨i, by have := hl.bound h rfl hp; omega, h2⟩
theorem chL_all (h : FV F n) {p : Nat} (hp : p < n) : ∀ x ∈ chL F n p, x < n := by
  intro x hx
  obtain ⟨i, _, h2⟩ := (mem_chL h hp x).1 hx
  have := h.nonneg hp (i := i) (by omega)
  omega
/-- The first place of a frame in its chain. -/
theorem chL_index (h : FV F n) {p m : Nat} (hp : p < n) (hl : LenP F p m) {q x : Nat} (hq : q < m) (e : iter F q p = (x : Int)) (hno : ∀ i, i < q → iter F i p ≠ (x : Int)) : (chL F n p).idxOf x = q := by
  have hlen := chL_length hl (hl.bound h rfl hp)
  have g := chL_get h hp hl hq
  rw [e, Int.toNat_natCast] at g
  have hq2 : q < (chL F n p).length := by omega
  have at_ : ∀ (j : Nat) (hj : j < m) (hj2 : j < (chL F n p).length), (chL F n p)[j] = (iter F j p).toNat := fun j hj hj2 => by
    have h1 := chL_get h hp hl hj
    rw [List.getElem?_eq_getElem hj2] at h1
    exact Option.some.inj h1
  show (chL F n p).findIdx (· == x) = q
  rw [List.findIdx_eq hq2]
  refine ⟨?_, fun j hj => ?_⟩
  · rw [at_ q hq hq2, e]; simp
  · rw [at_ j (by omega) (by omega)]
    have h1 := hno j hj
    have h2 := h.nonneg hp (hl.2 j (by omega))
    simp
    omega

/-- What append makes of a chain, frame after frame. -/
theorem numF_chL (h : FV F n) {p m : Nat} (hp : p < n) (hl : LenP F p m) {i : Nat} (hi : i < m) : (((chL F n p).getD i 0 : Nat) : Int) = iter F i p := by
  rw [List.getD_eq_getElem?_getD, chL_get h hp hl hi]
  have := h.nonneg hp (hl.2 i hi)
  simp
  omega

/-! Links. -/
/-- Whether last and f can't be linked; both are frames of a valid space. -/
def lnkB (F : Nat → Fr) (n l f : Nat) : Bool := decide ((F l).ow = -1) || decide ((F l).st ≠ (F f).st) || decide ((F l).nx ≠ -1) || fol F n f || decide (l ∈ chL F n f)
noncomputable def lnkE (s : Int) (nw : Nat) (wd : Nat → Int) (n : Nat) (F : Nat → Fr) (last f : Int) : Int :=
  if validB s nw wd n F = false then 1 else if inB n last = false ∨ inB n f = false then 2 else if lnkB F n last.toNat f.toNat = true then 5 else 0
noncomputable def lstE (s : Int) (nw : Nat) (wd : Nat → Int) (n : Nat) (F : Nat → Fr) (first : Int) : Int :=
  if validB s nw wd n F = false then 1 else if inB n first = false then 2 else if (F first.toNat).ow = -1 then 5 else 0
noncomputable def lstL (s : Int) (nw : Nat) (wd : Nat → Int) (n : Nat) (F : Nat → Fr) (first : Int) : List Nat := if lstE s nw wd n F first = 0 then chL F n first.toNat else []
/-- Whether a is an address of nw words. -/
def adB (nw : Nat) (a : Int) : Bool := decide (0 ≤ a) && decide (a < nw)
noncomputable def stpE (s : Int) (nw : Nat) (wd : Nat → Int) (n : Nat) (F : Nat → Fr) (a k : Int) : Int :=
  if validB s nw wd n F = false then 1 else if adB nw a = false ∨ k < 0 then 2 else if (F (a / 2 ^ s.toNat).toNat).ow = -1 then 5
    else if ((chL F n (a / 2 ^ s.toNat).toNat).length : Int) * 2 ^ s.toNat ≤ a % 2 ^ s.toNat + k then 2 else 0
noncomputable def stpV (s : Int) (nw : Nat) (wd : Nat → Int) (n : Nat) (F : Nat → Fr) (a k : Int) : Int :=
  if stpE s nw wd n F a k = 0 then addrP F s.toNat (a / 2 ^ s.toNat) (a % 2 ^ s.toNat + k).toNat else 0
noncomputable def idxE (s : Int) (nw : Nat) (wd : Nat → Int) (n : Nat) (F : Nat → Fr) (first a : Int) : Int :=
  if validB s nw wd n F = false then 1 else if inB n first = false ∨ adB nw a = false then 2 else if (F first.toNat).ow = -1 then 5
    else if (a / 2 ^ s.toNat).toNat ∈ chL F n first.toNat then 0 else 2
noncomputable def idxV (s : Int) (nw : Nat) (wd : Nat → Int) (n : Nat) (F : Nat → Fr) (first a : Int) : Int :=
  if idxE s nw wd n F first a = 0 then (((chL F n first.toNat).idxOf (a / 2 ^ s.toNat).toNat : Nat) : Int) * 2 ^ s.toNat + a % 2 ^ s.toNat else 0
end
end Go.Proofs.Ytpbcpobbjoopnaa
