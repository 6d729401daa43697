/-
  Contract of package pool: Give.
-/
import Derived.Test.YtpjhgdgdckndeaaDoorTake
import Derived.StillTailTactics
import Derived.Deep.CutBlock
import Derived.Deep.DeepCutAuto
import Derived.RegionTactic
namespace Go.Proofs.YtpjhgdgdckndeaaDoor
open Go.RowKit
set_option maxRecDepth 100000
set_option linter.unusedVariables false

/-- What Give makes of the frames below t, and of their words. -/
def giveF (F : Nat → Fr) (o : Int) (t : Nat) : Nat → Fr := fun j => if j < t ∧ (F j).ow = o then frFree else F j
def giveW (wd : Nat → Int) (F : Nat → Fr) (o : Int) (k t : Nat) : Nat → Int := fun a => if a / 2 ^ k < t ∧ (F (a / 2 ^ k)).ow = o then 0 else wd a

noncomputable def giveE (s : Int) (nw : Nat) (wd : Nat → Int) (n : Nat) (F : Nat → Fr) (o : Int) : Int :=
  if (validB s nw wd n F && okO o) = false then 1 else if cntP (owB F o) n = 0 then 5 else 0
/-- What Give answers. -/
def GiveOut (s : Int) (nw : Nat) (wd : Nat → Int) (n : Nat) (F : Nat → Fr) (o : Int) (w : World) (e : Ending) (w' : World) : Prop :=
  (∃ x : Int, giveE s nw wd n F o = x ∧ x ≠ 0 ∧ e = .returned (.tuple #[zSp, .int .i64 0, .int .i64 x]) ∧ Below w.heap.size w w') ∨
  (giveE s nw wd n F o = 0 ∧ ∃ (A1 : Option Addr) (c1 g c2 : Nat), e = .returned (.tuple #[.agg #[.int .i64 s, .slice A1 nw c1, .slice (some ⟨g, 0, none⟩) n c2], .int .i64 (cntP (owB F o) n : Nat), .int .i64 0]) ∧
    Own w' w.heap.size A1 nw c1 (giveW wd F o s.toNat n) ∧ OwnT w' w.heap.size (some ⟨g, 0, none⟩) n c2 (giveF F o n) ∧ Below w.heap.size w w')
theorem give_bad {s : Int} {nw : Nat} {wd : Nat → Int} {n : Nat} {F : Nat → Fr} {o : Int} {w w' : World} (h : (validB s nw wd n F && okO o) = false) (hb : Below w.heap.size w w') :
    GiveOut s nw wd n F o w (.returned (.tuple #[zSp, .int .i64 0, .int .i64 1])) w' :=
  .inl ⟨1, by unfold giveE; rw [if_pos h], by decide, rfl, hb⟩
theorem give_none {s : Int} {nw : Nat} {wd : Nat → Int} {n : Nat} {F : Nat → Fr} {o : Int} {w w' : World} (h : (validB s nw wd n F && okO o) = true) (h3 : cntP (owB F o) n = 0) (hb : Below w.heap.size w w') :
    GiveOut s nw wd n F o w (.returned (.tuple #[zSp, .int .i64 0, .int .i64 5])) w' :=
  .inl ⟨5, by unfold giveE; rw [if_neg (by rw [h]; decide), if_pos h3], by decide, rfl, hb⟩
theorem give_ok {s : Int} {nw : Nat} {wd : Nat → Int} {n : Nat} {F : Nat → Fr} {o : Int} (h : (validB s nw wd n F && okO o) = true) (h3 : cntP (owB F o) n ≠ 0) : giveE s nw wd n F o = 0 := by
  unfold giveE; rw [if_neg (by rw [h]; decide), if_neg h3]

theorem cut_bounds {k n i nw : Nat} (hk : k ≤ 8) (hi : i < n) (hn : n ≤ 64) (h : nw = n * 2 ^ k) : i * 2 ^ k + 2 ^ k ≤ nw ∧ 0 < 2 ^ k ∧ nw ≤ 16384 := by
  have h1 : (i + 1) * 2 ^ k ≤ n * 2 ^ k := Nat.mul_le_mul_right _ hi
  rw [Nat.add_mul, Nat.one_mul] at h1
  exact ⟨by omega, Nat.pow_pos (by decide), by rw [h]; exact prod_le hn hk⟩
theorem shifts (i k : Nat) : (i : Int) * 2 ^ k = ((i * 2 ^ k : Nat) : Int) ∧ ((i : Int) + 1) * 2 ^ k = ((i * 2 ^ k + 2 ^ k : Nat) : Int) := by
  have h : (i : Int) * 2 ^ k = ((i * 2 ^ k : Nat) : Int) := by simp
  exact ⟨h, by rw [Int.add_mul, Int.one_mul, h]; simp⟩
theorem own_apart {w : World} {base base' nw c n c2 g x : Nat} {wd : Nat → Int} {F : Nat → Fr} (h : Own w base (some ⟨x, 0, none⟩) nw c wd) (hT : OwnT w base' (some ⟨g, 0, none⟩) n c2 F) : x ≠ g := by
  obtain ⟨h1, h2, ⟨h3, _⟩ | ⟨y, cur, hA, hb, hy, hs⟩⟩ := h
  · cases h3
  · injection hA with hA
    injection hA with hA
    subst hA
    obtain ⟨_, _, ⟨h4, _⟩ | ⟨g', cur', hA, _, hg, _⟩⟩ := hT
    · cases h4
    · injection hA with hA
      injection hA with hA
      subst hA
      intro e
      subst e
      rw [hy] at hg
      injection hg with hg
      injection hg with _ hg _
      revert hg
      decide

theorem lstP_prefix (p : Nat → Bool) {m n : Nat} (h : m ≤ n) : ∃ r, lstP p n = lstP p m ++ r := by
  induction n with
  | zero => obtain rfl : m = 0 := by omega
            exact ⟨[], by simp⟩
  | succ n ih =>
    rcases (show m ≤ n ∨ m = n + 1 by omega) with h1 | rfl
    · obtain ⟨r, hr⟩ := ih h1
      exact ⟨r ++ (if p n then [n] else []), by simp only [lstP]; rw [hr, List.append_assoc]⟩
    · exact ⟨[], by simp⟩
/-- The j-th member of a set: the least from t on, where j lie below t. -/
theorem nth_member (p : Nat → Bool) {t j n : Nat} (ht : t ≤ n) (hj : cntP p t = j) (hlt : j < cntP p n) :
    ∃ i, t ≤ i ∧ i < n ∧ p i = true ∧ (∀ q, t ≤ q → q < i → p q = false) ∧ numF (lstP p n) j = i ∧ cntP p (i + 1) = j + 1 := by
  have h0 : setP (fromP p t) n ≠ 0 := fun e => by
    have h := lstP_done p ht e
    have : cntP p n = cntP p t := by rw [← lstP_length, ← lstP_length, h]
    omega
  obtain ⟨i, h1, h2, h3, h4⟩ := lowest p h0
  refine ⟨i, h1, h2, h3, h4, ?_, by rw [cntP_next p h1 h3 h4, hj]⟩
  obtain ⟨r, hr⟩ := lstP_prefix p (show i + 1 ≤ n by omega)
  rw [lstP_next p h1 h3 h4] at hr
  have hl : (lstP p t).length = j := by rw [lstP_length, hj]
  unfold numF
  have h5 : (lstP p n)[j]? = some i := by
    rw [hr, List.append_assoc, List.getElem?_append_right (by omega), hl, Nat.sub_self]
    rfl
  rw [List.getD_eq_getElem?_getD, h5]
  rfl

theorem below_fill {B g : Nat} (hg : B ≤ g) : ∀ (vs : List Value) (o : Nat) (w : World), Below B w (w.setCells g o vs)
  | [], _, w => Below.refl B w
  | v :: r, o, w => ((Below.refl B w).setCell (p := ⟨g, o, none⟩) hg v).trans (below_fill hg r (o + 1) _)
theorem heap_fill {g b : Nat} (hne : b ≠ g) : ∀ (vs : List Value) (o : Nat) (w : World), (w.setCells g o vs).heap[b]? = w.heap[b]?
  | [], _, _ => rfl
  | v :: r, o, w => (heap_fill hne r (o + 1) _).trans (Below.heap_setCell w ⟨g, o, none⟩ v b hne)
theorem Blk.fill {w : World} {g b o : Nat} {t : TypeId} {cs : Array Value} (h : Blk w b t cs) (hne : b ≠ g) (vs : List Value) : Blk (w.setCells g o vs) b t cs := (heap_fill hne vs o w).trans h
theorem OwnT.fill {w : World} {base n c x g o : Nat} {F : Nat → Fr} (h : OwnT w base (some ⟨x, 0, none⟩) n c F) (hne : x ≠ g) (vs : List Value) : OwnT (w.setCells g o vs) base (some ⟨x, 0, none⟩) n c F := by
  obtain ⟨h1, h2, ⟨h3, _⟩ | ⟨y, cur, hA, hb, hy, hs⟩⟩ := h
  · cases h3
  · injection hA with hA
    injection hA with hA
    subst hA
    exact ⟨h1, h2, .inr ⟨x, cur, rfl, hb, (heap_fill hne vs o w).trans hy, hs⟩⟩
theorem Own.fill {base n c g : Nat} : ∀ (m o : Nat) (w : World) (f : Nat → Int), Own w base (some ⟨g, 0, none⟩) n c f → o + m ≤ n →
    Own (w.setCells g o (List.replicate m (.int .u64 0))) base (some ⟨g, 0, none⟩) n c (fun a => if o ≤ a ∧ a < o + m then 0 else f a)
  | 0, o, w, f, h, _ => h.congr (fun j _ => by rw [if_neg (by omega)])
  | m + 1, o, w, f, h, hm => by
    obtain ⟨g', hA, _, _, _, _, h1⟩ := h.spot o (by omega) 0
    injection hA with hA
    injection hA with hA
    subst hA
    have h2 := Own.fill m (o + 1) _ _ h1 (by omega)
    refine Own.congr (show Own (w.setCells g o (List.replicate (m + 1) (.int .u64 0))) base (some ⟨g, 0, none⟩) n c _ from h2) (fun j _ => ?_)
    by_cases e : j = o
    · subst e; rw [if_neg (by omega), if_pos rfl, if_pos (by omega)]
    · by_cases e2 : o + 1 ≤ j ∧ j < o + 1 + m
      · rw [if_pos e2, if_pos (by omega)]
      · rw [if_neg e2, if_neg e, if_neg (by omega)]

/-- One frame more. -/
theorem giveF_next {F : Nat → Fr} {o : Int} {t i : Nat} (h1 : t ≤ i) (h3 : owB F o i = true) (h4 : ∀ q, t ≤ q → q < i → owB F o q = false) (j : Nat) : (if j = i then frFree else giveF F o t j) = giveF F o (i + 1) j := by
  have h3' := of_decide_eq_true h3
  unfold giveF
  by_cases e : j = i
  · subst e; rw [if_pos rfl, if_pos ⟨by omega, h3'⟩]
  · rw [if_neg e]
    by_cases e2 : j < t ∧ (F j).ow = o
    · rw [if_pos e2, if_pos ⟨by omega, e2.2⟩]
    · rw [if_neg e2]
      by_cases e3 : j < i + 1 ∧ (F j).ow = o
      · exfalso
        have : ¬ j < t := fun h => e2 ⟨h, e3.2⟩
        have h5 := of_decide_eq_false (h4 j (by omega) (by omega))
        exact h5 e3.2
      · rw [if_neg e3]
theorem giveW_next {wd : Nat → Int} {F : Nat → Fr} {o : Int} {k t i : Nat} (h1 : t ≤ i) (h3 : owB F o i = true) (h4 : ∀ q, t ≤ q → q < i → owB F o q = false) (a : Nat) :
    (if i * 2 ^ k ≤ a ∧ a < i * 2 ^ k + 2 ^ k then 0 else giveW wd F o k t a) = giveW wd F o k (i + 1) a := by
  have h3' := of_decide_eq_true h3
  have hp : 0 < 2 ^ k := Nat.pow_pos (by decide)
  have key : (i * 2 ^ k ≤ a ∧ a < i * 2 ^ k + 2 ^ k) ↔ a / 2 ^ k = i := by
    constructor
    · rintro ⟨x, y⟩
      exact Nat.div_eq_of_lt_le x (by rw [Nat.add_mul, Nat.one_mul]; exact y)
    · intro e
      subst e
      have := Nat.div_add_mod a (2 ^ k)
      have := Nat.mod_lt a hp
      rw [Nat.mul_comm]
      omega
  unfold giveW
  by_cases e : a / 2 ^ k = i
  · rw [if_pos (key.2 e), if_pos ⟨by omega, by rw [e]; exact h3'⟩]
  · rw [if_neg (fun h => e (key.1 h))]
    by_cases e2 : a / 2 ^ k < t ∧ (F (a / 2 ^ k)).ow = o
    · rw [if_pos e2, if_pos ⟨by omega, e2.2⟩]
    · rw [if_neg e2]
      by_cases e3 : a / 2 ^ k < i + 1 ∧ (F (a / 2 ^ k)).ow = o
      · exfalso
        have : ¬ a / 2 ^ k < t := fun h => e2 ⟨h, e3.2⟩
        have h5 := of_decide_eq_false (h4 (a / 2 ^ k) (by omega) (by omega))
        exact h5 e3.2
      · rw [if_neg e3]
theorem giveW_all {wd : Nat → Int} {F : Nat → Fr} {o : Int} {k t n a : Nat} (ht : t ≤ n) (h : cntP (owB F o) t = cntP (owB F o) n) (ha : a < n * 2 ^ k) : giveW wd F o k t a = giveW wd F o k n a := by
  have hq : a / 2 ^ k < n := Nat.div_lt_of_lt_mul (by rw [Nat.mul_comm]; exact ha)
  unfold giveW
  by_cases e : a / 2 ^ k < t ∧ (F (a / 2 ^ k)).ow = o
  · rw [if_pos e, if_pos ⟨by omega, e.2⟩]
  · rw [if_neg e]
    by_cases e2 : (F (a / 2 ^ k)).ow = o
    · exfalso
      have h1 : cntP (owB F o) t ≤ cntP (owB F o) (a / 2 ^ k) := cntP_mono _ (by have : ¬ a / 2 ^ k < t := fun h => e ⟨h, e2⟩; omega)
      have h2 : cntP (owB F o) (a / 2 ^ k + 1) ≤ cntP (owB F o) n := cntP_mono _ (by omega)
      have h3 : cntP (owB F o) (a / 2 ^ k + 1) = cntP (owB F o) (a / 2 ^ k) + 1 := by simp only [cntP]; rw [owB_yes e2]; rfl
      omega
    · rw [if_neg (fun h => e2 h.2)]
theorem giveF_all {F : Nat → Fr} {o : Int} {t n j : Nat} (ht : t ≤ n) (h : cntP (owB F o) t = cntP (owB F o) n) (hj : j < n) : giveF F o t j = giveF F o n j := by
  unfold giveF
  by_cases e : j < t ∧ (F j).ow = o
  · rw [if_pos e, if_pos ⟨by omega, e.2⟩]
  · rw [if_neg e]
    by_cases e2 : (F j).ow = o
    · exfalso
      have h1 : cntP (owB F o) t ≤ cntP (owB F o) j := cntP_mono _ (by have : ¬ j < t := fun h => e ⟨h, e2⟩; omega)
      have h2 : cntP (owB F o) (j + 1) ≤ cntP (owB F o) n := cntP_mono _ (by omega)
      have h3 : cntP (owB F o) (j + 1) = cntP (owB F o) j + 1 := by simp only [cntP]; rw [owB_yes e2]; rfl
      omega
    · rw [if_neg (fun h => e2 h.2)]

/-- At the loop's head. -/
def GiveAt (s : Int) (nw : Nat) (wd : Nat → Int) (n : Nat) (F : Nat → Fr) (o : Int) (w : World) (V1 V2 : Value) (base bx g x c1 c2 : Nat) (GA : Option Addr) (gc : Nat) (iv : Value) (wr : World) : Prop :=
  ∃ t j : Nat, t ≤ n ∧ cntP (owB F o) t = j ∧ iv = .int .i64 j ∧ Own wr base (some ⟨x, 0, none⟩) nw c1 (giveW wd F o s.toNat t) ∧ OwnT wr base (some ⟨g, 0, none⟩) n c2 (giveF F o t) ∧
    Nums wr base GA (cntP (owB F o) n) gc (numF (lstP (owB F o) n)) ∧ Blk wr w.heap.size 26 #[.int .i64 s, V1, V2] ∧ Blk wr (w.heap.size + 1) 26 #[.int .i64 0, .slice none 0 0, .slice none 0 0] ∧
    Blk wr bx 26 #[.int .i64 s, .slice (some ⟨x, 0, none⟩) nw c1, .slice (some ⟨g, 0, none⟩) n c2] ∧ Below w.heap.size w wr

set_option maxHeartbeats 4000000 in
theorem give_any (s : Int) (A A' : Option Addr) (nw c n c' : Nat) (wd : Nat → Int) (F : Nat → Fr) (o : Int) (w : World) (hA : Arr w w.heap.size A nw c wd) (hT : Tab w w.heap.size A' n c' F) (hD : Db w) :
    Calls Tryd.prog 21 #[.agg #[.int .i64 s, .slice A nw c, .slice A' n c'], .int .i64 o] w (GiveOut s nw wd n F o w) := by
  obtain ⟨U, hU⟩ : ∃ U, U = (w.alloc (.cells #[.int .i64 s, .slice A nw c, .slice A' n c'] 26)).alloc (.cells #[.int .i64 0, .slice none 0 0, .slice none 0 0] 26) := ⟨_, rfl⟩
  have BX := Lib.hid (show Blk U w.heap.size 26 #[.int .i64 s, .slice A nw c, .slice A' n c'] by rw [hU]; exact (Blk.new _ _ _).alloc _)
  have BR := Lib.hid (show Blk U (w.heap.size + 1) 26 #[.int .i64 0, .slice none 0 0, .slice none 0 0] by rw [hU]; exact Blk.newAt _ _ _ _ (by simp))
  have hbu : Below w.heap.size w U := by rw [hU]; exact ((Below.refl _ _).alloc (Nat.le_refl _) _).alloc (by simp) _
  have HBU := Lib.hid hbu
  have HU := Lib.hid hU
  have HA := Lib.hid (hA.next hbu)
  have HT := Lib.hid (hT.next hbu)
  have HD := Lib.hid (hD.next hbu)
  clear hA hT hD hU hbu
  cases hv : validB s nw wd n F with
  | false =>
    have HE := Lib.hid (show (validB s nw wd n F && okO o) = false by rw [hv]; rfl)
    have HV := Lib.hid hv
    clear hv
    go_enter Tryd.func21, Tryd.ntmps21
    go_wp2_with (go_at_call 31; rw [← HU.out]; refine (valid_any s A A' nw c n c' wd F U HA.out HT.out).mono ?_; rintro e w1 ⟨rfl, hb1⟩; rw [HV.out]; have R := BR.out.next hb1; have r0 := R.cell 0; have r1 := R.cell 1; have r2 := R.cell 2; have f0 := R.frozen 0; have f1 := R.frozen 1; have f2 := R.frozen 2; have rz := R.lt; simp at r0 r1 r2)
    refine bodyPost_ret (v := .tuple #[.agg #[.int .i64 0, .slice none 0 0, .slice none 0 0], .int .i64 0, .int .i64 1]) (by simp [results, Tryd.results21, go_sem, r0, r1, r2]) rfl (give_bad HE.out (below_put3 (below_next HBU.out (Nat.le_refl _) hb1) (by omega) _ _ _))
  | true =>
    have hvp := validB_of hv
    have HV := Lib.hid hv
    cases ho : okO o with
    | false =>
      have HE := Lib.hid (show (validB s nw wd n F && okO o) = false by rw [ho]; simp)
      have HO := Lib.hid ho
      clear ho hv hvp
      go_enter Tryd.func21, Tryd.ntmps21
      go_wp2_with (first
        | (go_at_call 31; rw [← HU.out]; refine (valid_any s A A' nw c n c' wd F U HA.out HT.out).mono ?_; rintro e w1 ⟨rfl, hb1⟩; rw [HV.out]; have R := BR.out.next hb1; have r0 := R.cell 0; have r1 := R.cell 1; have r2 := R.cell 2; have f0 := R.frozen 0; have f1 := R.frozen 1; have f2 := R.frozen 2; have rz := R.lt; simp at r0 r1 r2)
        | (go_at_call 32; refine (isOwner_any o _).mono ?_; rintro e w' ⟨rfl, rfl⟩; rw [HO.out]))
      refine bodyPost_ret (v := .tuple #[.agg #[.int .i64 0, .slice none 0 0, .slice none 0 0], .int .i64 0, .int .i64 1]) (by simp [results, Tryd.results21, go_sem, r0, r1, r2]) rfl (give_bad HE.out (below_put3 (below_next HBU.out (Nat.le_refl _) hb1) (by omega) _ _ _))
    | true =>
      have HO := Lib.hid ho
      have HE := Lib.hid (show (validB s nw wd n F && okO o) = true by rw [hv, ho]; rfl)
      obtain ⟨n0, n64, w0, w20⟩ := take_bounds hvp
      obtain ⟨k, rfl⟩ : ∃ k : Nat, s = (k : Int) := ⟨s.toNat, by have := shB_yes hvp.1; omega⟩
      have hk8 : k ≤ 8 := by have := shB_yes hvp.1; omega
      have HNW : Hid (nw = n * 2 ^ k) := by have h := hvp.2.2.1; rw [Int.toNat_natCast] at h; exact Lib.hid h
      clear ho hv hvp
      by_cases hc0 : cntP (owB F o) n = 0
      · have HC := Lib.hid hc0
        have HLL := Lib.hid (show (lstP (owB F o) n).length = 0 by rw [lstP_length, hc0])
        clear hc0
        go_enter Tryd.func21, Tryd.ntmps21
        go_wp2_with (first
          | (go_at_call 31; rw [← HU.out]; refine (valid_any k A A' nw c n c' wd F U HA.out HT.out).mono ?_; rintro e w1 ⟨rfl, hb1⟩; rw [HV.out]; have X := BX.out.next hb1; have x0 := X.cell 0; have x1 := X.cell 1; have x2 := X.cell 2; have xz := X.lt; simp at x0 x1 x2)
          | (go_at_call 32; refine (isOwner_any o _).mono ?_; rintro e w' ⟨rfl, rfl⟩; rw [HO.out])
          | (go_at_call 28; refine (framesOf_any k _ A' n c' F o w1 (HT.out.next hb1) n64).mono ?_; rintro e w2 ⟨rfl, hb2⟩; have hb12 := below_next hb1 (Nat.le_refl _) hb2)
          | (go_at_call 27; refine (members_any (owB F o) n w2 n64 (HD.out.next hb12)).mono ?_; rintro e w3 ⟨GA, gc, rfl, hg, hb3⟩; rw [HLL.out]; have hb13 := below_next hb12 (Nat.le_refl _) hb3; have R := BR.out.next hb13; have r0 := R.cell 0; have r1 := R.cell 1; have r2 := R.cell 2; have f0 := R.frozen 0; have f1 := R.frozen 1; have f2 := R.frozen 2; have rz := R.lt; simp at r0 r1 r2))
        refine bodyPost_ret (v := .tuple #[.agg #[.int .i64 0, .slice none 0 0, .slice none 0 0], .int .i64 0, .int .i64 5]) (by simp [results, Tryd.results21, go_sem, r0, r1, r2]) rfl (give_none HE.out HC.out (below_put3 (below_next HBU.out (Nat.le_refl _) hb13) (by omega) _ _ _))
      · have HC := Lib.hid hc0
        have hcl := cntP_le (owB F o) n
        have hcpos : 0 < cntP (owB F o) n := by omega
        have hce : (((cntP (owB F o) n : Nat) : Int) == 0) = false := by simpa using hc0
        have HLL := Lib.hid (lstP_length (owB F o) n)
        clear hc0
        go_enter Tryd.func21, Tryd.ntmps21
        go_upto_block 0 with (first
          | (go_at_call 31; rw [← HU.out]; refine (valid_any k A A' nw c n c' wd F U HA.out HT.out).mono ?_; rintro e w1 ⟨rfl, hb1⟩; rw [HV.out]; have X := BX.out.next hb1; have x0 := X.cell 0; have x1 := X.cell 1; have x2 := X.cell 2; have xz := X.lt; simp at x0 x1 x2)
          | (go_at_call 32; refine (isOwner_any o _).mono ?_; rintro e w' ⟨rfl, rfl⟩; rw [HO.out])
          | (go_at_call 28; refine (framesOf_any k _ A' n c' F o w1 (HT.out.next hb1) n64).mono ?_; rintro e w2 ⟨rfl, hb2⟩; have hb12 := below_next hb1 (Nat.le_refl _) hb2)
          | (go_at_call 27; refine (members_any (owB F o) n w2 n64 (HD.out.next hb12)).mono ?_; rintro e w3 ⟨GA, gc, rfl, hg, hb3⟩; rw [HLL.out] at hg ⊢; have hb13 := below_next hb12 (Nat.le_refl _) hb3; have Z := BX.out.next hb13; have s0 := Z.cell 0; have s1 := Z.cell 1; have s2 := Z.cell 2; have sz := Z.lt; simp at s0 s1 s2)
          | (go_at_call 36; refine (clonep_any k A A' nw c n c' wd F w3 (HA.out.next hb13) (HT.out.next hb13) (by omega) n0 (by omega) w0).mono ?_; rintro e w4 ⟨A1, c1, g, c2, rfl, hoA, hoT, hb4⟩))
        obtain ⟨x, rfl, _, hx4, _⟩ := hoA.spot 0 (by omega) 0
        obtain ⟨W, hW⟩ : ∃ W, W = w4.alloc (.cells #[.int .i64 k, .slice (some ⟨x, 0, none⟩) nw c1, .slice (some ⟨g, 0, none⟩) n c2] 26) := ⟨_, rfl⟩
        have hbw : Below w4.heap.size w4 W := by rw [hW]; exact (Below.refl _ _).alloc (Nat.le_refl _) _
        have BO : Blk W w4.heap.size 26 #[.int .i64 k, .slice (some ⟨x, 0, none⟩) nw c1, .slice (some ⟨g, 0, none⟩) n c2] := by rw [hW]; exact Blk.new _ _ _
        obtain ⟨g1, g2, _⟩ := hoT.spotAt 0 n0 frFree
        have hb14 := below_next hb13 (Nat.le_refl _) hb4
        have hb1W := below_next hb14 (Nat.le_refl _) hbw
        have z1 : w.heap.size + 1 < w3.heap.size := (BR.out.next hb13).lt
        have zw3 : w.heap.size ≤ w3.heap.size := by omega
        have hxg := own_apart hoA hoT
        have hnums := hg.next (below_next hb4 (Nat.le_refl _) hbw)
        have hnums3 : Nums W w3.heap.size GA (cntP (owB F o) n) gc (numF (lstP (owB F o) n)) := hg.below (below_next hb4 (Nat.le_refl _) hbw)
        have ST : Hid (GiveAt k nw wd n F o w (.slice A nw c) (.slice A' n c') w3.heap.size w4.heap.size g x c1 c2 GA gc (.int .i64 0) W) :=
          Lib.hid ⟨0, 0, by omega, rfl, rfl, (hoA.below hbw).congr (fun j _ => by simp [giveW]), (hoT.below hbw).congr (fun j _ => by simp [giveF]), hnums3, BX.out.next hb1W, BR.out.next hb1W, BO, below_next HBU.out (Nat.le_refl _) hb1W⟩
        have HW := Lib.hid hW
        have z5 : w3.heap.size ≤ w4.heap.size := hb4.size
        clear hW hoT hoA hbw hnums hnums3 BO hg
        rw [← HW.out]
        have p0 := pw_pos k
        have p1 := pw_bd hk8
        go_wp2
        go_loopw [10, 32] (fun _ i wr => GiveAt k nw wd n F o w (.slice A nw c) (.slice A' n c') w3.heap.size w4.heap.size g x c1 c2 GA gc i wr) (fun _ i _ => cntP (owB F o) n - (intOf i).toNat)
        case atStart => exact ST.out
        case round =>
          obtain ⟨t, j, ht, hj, rfl, ho1, ht1, hn1, X1, R1, O1, hb1'⟩ := hrel
          have x0 := X1.cell 0
          have o1 := O1.cell 1
          have o2 := O1.cell 2
          have r0 := R1.cell 0
          have r1 := R1.cell 1
          have r2 := R1.cell 2
          have xz := X1.lt
          have oz := O1.lt
          have rz := R1.lt
          simp at x0 o1 o2 r0 r1 r2
          by_cases hlt : j < cntP (owB F o) n
          · obtain ⟨i, h1, h2, h3, h4, h5, h6⟩ := nth_member (owB F o) ht hj hlt
            obtain ⟨nb, no, rfl, hnb, hnc⟩ := hn1.at_ j hlt
            rw [h5] at hnc
            have hlt2 : 0 ≤ (j : Int) ∧ (j : Int) < (cntP (owB F o) n : Nat) := by omega
            have nz : nb < wr.heap.size := by omega
            go_upto_region 10 with fail
            obtain ⟨q0, q1, q2⟩ := cut_bounds hk8 h2 n64 HNW.out
            have hle := ho1.le
            have hmx : (c1 : Int) ≤ 9223372036854775807 := by have := ho1.2.1; unfold maxLen at this; omega
            obtain ⟨lo, hlo⟩ : ∃ lo, lo = i * 2 ^ k := ⟨_, rfl⟩
            obtain ⟨m, hm⟩ : ∃ m, m = 2 ^ k := ⟨_, rfl⟩
            obtain ⟨hi, hhi⟩ : ∃ hi, hi = lo + m := ⟨_, rfl⟩
            rw [← hlo, ← hm] at q0
            rw [← hm] at q1
            have e1 : IntKind.i64.wrap ((i : Int) * 2 ^ k) = (lo : Int) := by rw [(shifts i k).1, ← hlo, IntKind.wrap_i64]; omega
            have e2 : IntKind.i64.wrap ((i : Int) + 1) = (i : Int) + 1 := by rw [IntKind.wrap_i64]; omega
            have e3 : IntKind.i64.wrap (((i : Int) + 1) * 2 ^ k) = (hi : Int) := by rw [(shifts i k).2, ← hlo, ← hm, ← hhi, IntKind.wrap_i64]; omega
            have b1 : (0 : Int) ≤ lo ∧ (lo : Int) ≤ hi ∧ (hi : Int) ≤ c1 := by omega
            have b2 : ¬ c1 = lo := by omega
            have b3 : lo < hi ∧ hi ≤ nw := by omega
            have HMH := Lib.hid (show hi - lo = m by omega)
            have HLO := Lib.hid hlo
            have HM := Lib.hid hm
            have HHI := Lib.hid hhi
            clear hlo hm hhi
            have H5 := Lib.hid h5
            have H6 := Lib.hid h6
            have HJ := Lib.hid hj
            have H4 := Lib.hid h4
            have H3 := Lib.hid h3
            clear h3 h4 h5 h6 hj
            have i64 : (i : Int) < 64 := by omega
            go_still_tail 12, (by kernel_rfl)
            have ho2 : Own wr.drew w3.heap.size (some ⟨x, 0, none⟩) nw c1 (giveW wd F o (k : Int).toNat t) := ho1
            have ht2 : OwnT wr.drew w3.heap.size (some ⟨g, 0, none⟩) n c2 (giveF F o t) := ht1
            have hn2 : Nums wr.drew w3.heap.size (some ⟨nb, no, none⟩) (cntP (owB F o) n) gc (numF (lstP (owB F o) n)) := hn1
            have X2 : Blk wr.drew w.heap.size 26 #[.int .i64 k, .slice A nw c, .slice A' n c'] := X1
            have R2 : Blk wr.drew (w.heap.size + 1) 26 #[.int .i64 0, .slice none 0 0, .slice none 0 0] := R1
            have O2 : Blk wr.drew w4.heap.size 26 #[.int .i64 k, .slice (some ⟨x, 0, none⟩) nw c1, .slice (some ⟨g, 0, none⟩) n c2] := O1
            have hb2' : Below w.heap.size w wr.drew := hb1'.drew
            change wpList _ _ _ _ _ wr.drew
            generalize wr.drew = W2 at *
            have hcl : ∀ ty, (Builtin.clear_ #[23] ty #[.slice (some ⟨x, lo, none⟩) (hi - lo) (c1 - lo)]).run Tryd.prog W2 = .ok (.tuple #[]) (W2.setCells x lo (List.replicate (hi - lo) (.int .u64 0))) :=
              fun ty => Lib.run_clear_slice W2 23 59 ty (.int .u64 0) Tryd.underlying23 (fun _ => by kernel_rfl) rfl rfl x lo (hi - lo) (c1 - lo) (by omega)
                (fun q hq => by obtain ⟨x', hA', _, _, hc', _⟩ := ho2.spot (lo + q) (by omega) 0; injection hA' with hA'; injection hA' with hA'; subst hA'; rw [hc']; rfl)
                (fun q hq => by obtain ⟨x', hA', _, _, _, hf', _⟩ := ho2.spot (lo + q) (by omega) 0; injection hA' with hA'; injection hA' with hA'; subst hA'; exact hf')
            go_upto_region 11 with fail
            have hcur : Own (W2.setCells x lo (List.replicate (hi - lo) (.int .u64 0))) w3.heap.size (some ⟨x, 0, none⟩) nw c1 (giveW wd F o (k : Int).toNat (i + 1)) :=
              (Own.fill (hi - lo) lo W2 _ ho2 (by omega)).congr (fun a _ => by
                have h := giveW_next (wd := wd) (k := k) h1 H3.out H4.out a
                rw [← HLO.out, ← HM.out] at h
                rw [HMH.out]
                exact h)
            have gbase : w3.heap.size ≤ g := (ht2.spotAt i h2 frFree).1
            have xbase : w3.heap.size ≤ x := by obtain ⟨x', hA', hb', _⟩ := ho2.spot 0 w0 0; cases hA'; exact hb'
            have htur := ht2.fill (g := x) (o := lo) (fun e => hxg e.symm) (List.replicate (hi - lo) (.int .u64 0))
            have X3 := X2.fill (g := x) (o := lo) (by omega) (List.replicate (hi - lo) (.int .u64 0))
            have R3 := R2.fill (g := x) (o := lo) (by omega) (List.replicate (hi - lo) (.int .u64 0))
            have O3 := O2.fill (g := x) (o := lo) (by omega) (List.replicate (hi - lo) (.int .u64 0))
            have hbf : Below w3.heap.size W2 (W2.setCells x lo (List.replicate (hi - lo) (.int .u64 0))) := below_fill xbase _ _ _
            have hn3 := hn2.below hbf
            have hb3' : Below w.heap.size w (W2.setCells x lo (List.replicate (hi - lo) (.int .u64 0))) := hb2'.trans (hbf.mono zw3)
            generalize W2.setCells x lo (List.replicate (hi - lo) (.int .u64 0)) = V at *
            obtain ⟨_, gz, c0, cc1, cc2, f0, f1, f2, hnew, _⟩ := htur.spotAt i h2 frFree
            have o2' := O3.cell 2
            have oz' := O3.lt
            simp at o2'
            have hlt3 : 0 ≤ (i : Int) ∧ (i : Int) < n := by omega
            have NX : Hid (GiveAt k nw wd n F o w (.slice A nw c) (.slice A' n c') w3.heap.size w4.heap.size g x c1 c2 (some ⟨nb, no, none⟩) gc (.int .i64 ((j : Int) + 1)) (((V.setCell ⟨g, i * 3, none⟩ (.int .i64 (-1))).setCell ⟨g, i * 3 + 1, none⟩ (.int .i64 (-1))).setCell ⟨g, i * 3 + 2, none⟩ (.int .i64 (-1)))) :=
              Lib.hid ⟨i + 1, j + 1, by omega, H6.out, by go_num, own_setT hcur htur _ _ _, hnew.congr (fun q _ => giveF_next h1 H3.out H4.out q), hn3.below (below_set3 (Below.refl _ _) gbase _ _ _), X3.far3 (by omega) _ _ _, R3.far3 (by omega) _ _ _, O3.far3 (by omega) _ _ _, below_set3 hb3' (by omega) _ _ _⟩
            clear hnew hcur htur hn3 hb3' hbf X3 R3 O3 ho2 ht2 hn2 X2 R2 O2 hb2' hcl
            go_wp2
            exact ⟨NX.out, by simp [intOf]; omega⟩
          · obtain rfl : j = cntP (owB F o) n := by have := cntP_mono (owB F o) ht; omega
            have hlt2 : ¬ ((cntP (owB F o) n : Nat) : Int) < (cntP (owB F o) n : Nat) := by omega
            have o0 := O1.cell 0
            have rf0 := R1.frozen 0
            have rf1 := R1.frozen 1
            have rf2 := R1.frozen 2
            simp at o0
            have hoF := ho1.congr (fun a ha => giveW_all (wd := wd) (k := k) ht hj (by rw [← HNW.out]; exact ha))
            have htF := ht1.congr (fun q hq => giveF_all ht hj hq)
            have HOF := Lib.hid hoF
            have HTF := Lib.hid htF
            have HBF := Lib.hid hb1'
            clear hj hoF htF ho1 ht1 hn1 X1 R1 O1 hb1'
            go_wp2
            refine bodyPost_ret (v := .tuple #[.agg #[.int .i64 k, .slice (some ⟨x, 0, none⟩) nw c1, .slice (some ⟨g, 0, none⟩) n c2], .int .i64 (cntP (owB F o) n : Nat), .int .i64 0]) (by simp [results, Tryd.results21, go_sem, r0, r1, r2]) rfl (.inr ⟨give_ok HE.out HC.out, some ⟨x, 0, none⟩, c1, g, c2, rfl, ?_, ?_, ?_⟩)
            · exact (HOF.out.put3 z1 _ _ _).lower zw3
            · exact (HTF.out.put3 z1 _ _ _).lower zw3
            · exact below_put3 HBF.out (by omega) _ _ _
end Go.Proofs.YtpjhgdgdckndeaaDoor
