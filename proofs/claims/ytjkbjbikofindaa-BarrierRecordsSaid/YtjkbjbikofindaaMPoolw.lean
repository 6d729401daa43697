/-
  Merged: Awake, Takes0, Takesp.
-/
import Derived.Test.YtjkbjbikofindaaMPool
import Derived.Test.YtjkbjbikofindaaMSpace
import Derived.Test.YtjkbjbikofindaaMWords
import Derived.Deep.RegionHeld3
import Derived.Deep.DeepCutAuto
import Derived.Deep.CutBlock
namespace Go.Proofs.Ytjkbjbikofindaa
open Go.RowKit
set_option maxRecDepth 100000
set_option linter.unusedVariables false

theorem stB_owner {o b : Int} (ho : okO o = true) (hb : okB b = true) : stB (b * 4294967296 + o) o = true := by
  have h1 := of_decide_eq_true ho
  have h2 := of_decide_eq_true hb
  refine (stB_of ⟨h1.1, h1.2, ?_⟩).symm
  omega
theorem valid_lift {s : Int} {nw n f : Nat} {wd : Nat → Int} {F : Nat → Fr} {o b : Int} (h : ValidP s nw wd n F) (hf : Least F n f) (ho : okO o = true) (hb : okB b = true) : ValidP s nw wd n (lift F f o (b * 4294967296 + o)) := by
  have hfr : F f = frFree := h.fv.free hf.1 hf.2.1
  have h1 := of_decide_eq_true ho
  exact ValidP.mk_ h.1 h.2.1 h.2.2.1 (lift_fv h.fv hfr (stB_owner ho hb)) (h.zr.mono (fun j _ hj => lift_free (by omega) hj))
theorem takeE_ok {s : Int} {nw n : Nat} {wd : Nat → Int} {F : Nat → Fr} {o b : Int} (h : ValidP s nw wd n F) (ho : okO o = true) (hb : okB b = true) (h2 : ∀ f, f < n → (F f).ow = o → (F f).st = b * 4294967296 + o) (h3 : ∃ f, f < n ∧ (F f).ow = -1) : takeE s nw wd n F o b = 0 := by
  refine take_ok (by rw [validB_yes h, ho, hb]; rfl) ?_ ?_
  · cases e : anyB F o (b * 4294967296 + o) n
    · rfl
    · obtain ⟨f, a1, a2, a3⟩ := (anyB_iff F o (b * 4294967296 + o) n).1 e
      exact absurd (h2 f a1 a2) a3
  · obtain ⟨f, a1, a2⟩ := h3
    intro e
    have h4 : cntP (owB F (-1)) (f + 1) ≤ cntP (owB F (-1)) n := cntP_mono _ (by omega)
    simp only [cntP] at h4
    rw [owB_yes a2] at h4
    simp at h4
    omega
theorem least_is {F : Nat → Fr} {n f g : Nat} (h : Least F n f) (hg : g < n) (h1 : (F g).ow = -1) (h2 : ∀ j, j < g → (F j).ow ≠ -1) : f = g := by
  rcases Nat.lt_trichotomy f g with e | e | e
  · exact absurd h.2.1 (h2 f e)
  · exact e
  · exact absurd h1 (h.2.2 g e)
/-- What Take gives where it gives a space. -/
def TakeYes (s : Int) (nw : Nat) (wd : Nat → Int) (n : Nat) (F : Nat → Fr) (f : Nat) (o b : Int) (w : World) (e : Ending) (w' : World) : Prop :=
  ∃ (A1 : Option Addr) (c1 g c2 : Nat), e = .returned (.tuple #[.agg #[.int .i64 s, .slice A1 nw c1, .slice (some ⟨g, 0, none⟩) n c2], .int .i64 f, .int .i64 0]) ∧
    Own w' w.heap.size A1 nw c1 wd ∧ OwnT w' w.heap.size (some ⟨g, 0, none⟩) n c2 (lift F f o (b * 4294967296 + o)) ∧ Below w.heap.size w w'
theorem TakeOut.yes {s : Int} {nw n f : Nat} {wd : Nat → Int} {F : Nat → Fr} {o b : Int} {w w' : World} {e : Ending} (h : TakeOut s nw wd n F o b w e w') (h0 : takeE s nw wd n F o b = 0) (hf : Least F n f) : TakeYes s nw wd n F f o b w e w' := by
  rcases h with ⟨x, h1, h2, _⟩ | ⟨_, f', A1, c1, g, c2, hl, he, h1, h2, h3⟩
  · exact absurd (h1.symm.trans h0) h2
  · obtain rfl : f' = f := least_is hl hf.1 hf.2.1 hf.2.2
    exact ⟨A1, c1, g, c2, he, h1, h2, h3⟩
def GiveYes (s : Int) (nw : Nat) (wd : Nat → Int) (n : Nat) (F : Nat → Fr) (m : Nat) (o : Int) (w : World) (e : Ending) (w' : World) : Prop :=
  ∃ (A1 : Option Addr) (c1 g c2 : Nat), e = .returned (.tuple #[.agg #[.int .i64 s, .slice A1 nw c1, .slice (some ⟨g, 0, none⟩) n c2], .int .i64 m, .int .i64 0]) ∧
    Own w' w.heap.size A1 nw c1 (giveW wd F o s.toNat n) ∧ OwnT w' w.heap.size (some ⟨g, 0, none⟩) n c2 (giveF F o n) ∧ Below w.heap.size w w'
theorem GiveOut.yes {s : Int} {nw n m : Nat} {wd : Nat → Int} {F : Nat → Fr} {o : Int} {w w' : World} {e : Ending} (h : GiveOut s nw wd n F o w e w') (hv : ValidP s nw wd n F) (ho : okO o = true) (hm : cntP (owB F o) n = m) (h0 : m ≠ 0) : GiveYes s nw wd n F m o w e w' := by
  rcases h with ⟨x, h1, h2, _⟩ | ⟨_, A1, c1, g, c2, he, h1, h2, h3⟩
  · have := give_ok (s := s) (nw := nw) (wd := wd) (F := F) (o := o) (n := n) (by rw [validB_yes hv, ho]; rfl) (by rw [hm]; exact h0)
    exact absurd (h1.symm.trans this) h2
  · rw [hm] at he
    exact ⟨A1, c1, g, c2, he, h1, h2, h3⟩

def F0 : Nat → Fr := fun _ => frFree
def F1 : Nat → Fr := lift F0 0 5 (0 * 4294967296 + 5)
def F2 : Nat → Fr := lift F1 1 6 (1 * 4294967296 + 6)
def F3 : Nat → Fr := lift F0 1 6 (1 * 4294967296 + 6)
theorem aw_v0 : ValidP (3 : Int) 24 (fun _ => 0) 3 F0 := valid_fresh (k := 3) (n := 3) (by decide) (by decide) (by decide) (by decide)
theorem aw_l0 : Least F0 3 0 := ⟨by decide, rfl, fun j hj => absurd hj (by omega)⟩
theorem aw_v1 : ValidP (3 : Int) 24 (fun _ => 0) 3 F1 := valid_lift aw_v0 aw_l0 (by decide) (by decide)
theorem aw_l1 : Least F1 3 1 := by
  refine ⟨by decide, rfl, fun j hj => ?_⟩
  have e : j = 0 := by omega
  subst e
  decide
theorem aw_v2 : ValidP (3 : Int) 24 (fun _ => 0) 3 F2 := valid_lift aw_v1 aw_l1 (by decide) (by decide)
theorem aw_v3 : ValidP (3 : Int) 24 (fun _ => 0) 3 F3 := by
  have hfr : F0 1 = frFree := rfl
  exact ValidP.mk_ aw_v0.1 aw_v0.2.1 aw_v0.2.2.1 (lift_fv aw_v0.fv hfr (stB_owner (by decide) (by decide))) (aw_v0.zr.mono (fun j _ hj => lift_free (by decide) hj))
theorem aw_g2 : ∀ j, j < 3 → giveF F2 5 3 j = F3 j := by
  intro j hj
  rcases (show j = 0 ∨ j = 1 ∨ j = 2 by omega) with rfl | rfl | rfl <;> rfl
theorem aw_l3 : Least F3 3 0 := ⟨by decide, rfl, fun j hj => absurd hj (by omega)⟩
theorem aw_t0 : takeE (3 : Int) 24 (fun _ => 0) 3 F0 5 0 = 0 := takeE_ok aw_v0 (by decide) (by decide) (fun f _ h => absurd h (by show ¬ (-1 : Int) = 5; decide)) ⟨0, by decide, rfl⟩
theorem aw_t1 : takeE (3 : Int) 24 (fun _ => 0) 3 F1 6 1 = 0 := takeE_ok aw_v1 (by decide) (by decide) (fun f hf h => by
  rcases (show f = 0 ∨ f = 1 ∨ f = 2 by omega) with rfl | rfl | rfl <;> exact absurd h (by decide)) ⟨1, by decide, rfl⟩
theorem aw_t3 : takeE (3 : Int) 24 (fun _ => 0) 3 F3 7 0 = 0 := takeE_ok aw_v3 (by decide) (by decide) (fun f hf h => by
  rcases (show f = 0 ∨ f = 1 ∨ f = 2 by omega) with rfl | rfl | rfl <;> exact absurd h (by decide)) ⟨0, by decide, rfl⟩

theorem Blk.set3 {w : World} {b : Nat} {t : TypeId} {a0 a1 a2 : Value} (h : Blk w b t #[a0, a1, a2]) (v0 v1 v2 : Value) : Blk (((w.setCell ⟨b, 0, none⟩ v0).setCell ⟨b, 1, none⟩ v1).setCell ⟨b, 2, none⟩ v2) b t #[v0, v1, v2] :=
  ((h.set_ 0 v0).set_ 1 v1).set_ 2 v2
theorem Arr.put3 {w : World} {B b n c : Nat} {A : Option Addr} {f : Nat → Int} (h : Arr w B A n c f) (hb : B ≤ b) (v0 v1 v2 : Value) : Arr (((w.setCell ⟨b, 0, none⟩ v0).setCell ⟨b, 1, none⟩ v1).setCell ⟨b, 2, none⟩ v2) B A n c f :=
  h.below (below_put3 (Below.refl _ _) hb _ _ _)

end Go.Proofs.Ytjkbjbikofindaa

namespace Go.Proofs.Ytjkbjbikofindaa
open Go.RowKit
set_option maxRecDepth 100000
set_option linter.unusedVariables false

/-- A new space, a number and an error. -/
def GivesSp (s : Int) (nw n : Nat) (wd : Nat → Int) (F : Nat → Fr) (f x : Int) (w : World) (e : Ending) (w' : World) : Prop :=
  ∃ (A : Option Addr) (c : Nat) (A' : Option Addr) (c' : Nat), e = .returned (.tuple #[.agg #[.int .i64 s, .slice A nw c, .slice A' n c'], .int .i64 f, .int .i64 x]) ∧ Own w' w.heap.size A nw c wd ∧ OwnT w' w.heap.size A' n c' F ∧ Below w.heap.size w w'
theorem gives_zero {w w' : World} {x : Int} (h : Below w.heap.size w w') : GivesSp 0 0 0 (fun _ => 0) (fun _ => frFree) 0 x w (.returned (.tuple #[zSp, .int .i64 0, .int .i64 x])) w' :=
  ⟨none, 0, none, 0, rfl, Own.nil_ _ _ _, OwnT.nil_ _ _ _, h⟩
theorem TakeYes.gives {s : Int} {nw n f : Nat} {wd : Nat → Int} {F : Nat → Fr} {o b : Int} {w w' : World} {e : Ending} (h : TakeYes s nw wd n F f o b w e w') : GivesSp s nw n wd (lift F f o (b * 4294967296 + o)) f 0 w e w' := by
  obtain ⟨A1, c1, g, c2, he, h1, h2, h3⟩ := h
  exact ⟨A1, c1, _, c2, he, h1, h2, h3⟩
theorem GiveYes.gives {s : Int} {nw n m : Nat} {wd : Nat → Int} {F : Nat → Fr} {o : Int} {w w' : World} {e : Ending} (h : GiveYes s nw wd n F m o w e w') : GivesSp s nw n (giveW wd F o s.toNat n) (giveF F o n) m 0 w e w' := by
  obtain ⟨A1, c1, g, c2, he, h1, h2, h3⟩ := h
  exact ⟨A1, c1, _, c2, he, h1, h2, h3⟩
theorem TakeOut.err {s : Int} {nw n : Nat} {wd : Nat → Int} {F : Nat → Fr} {o b x : Int} {w w' : World} {e : Ending} (h : TakeOut s nw wd n F o b w e w') (hx : takeE s nw wd n F o b = x) (h0 : x ≠ 0) : GivesSp 0 0 0 (fun _ => 0) (fun _ => frFree) 0 x w e w' := by
  rcases h with ⟨y, h1, h2, rfl, hb⟩ | ⟨h1, _⟩
  · obtain rfl : x = y := hx.symm.trans h1
    exact gives_zero hb
  · exact absurd (hx.symm.trans h1) h0
theorem GiveOut.err {s : Int} {nw n : Nat} {wd : Nat → Int} {F : Nat → Fr} {o x : Int} {w w' : World} {e : Ending} (h : GiveOut s nw wd n F o w e w') (hx : giveE s nw wd n F o = x) (h0 : x ≠ 0) : GivesSp 0 0 0 (fun _ => 0) (fun _ => frFree) 0 x w e w' := by
  rcases h with ⟨y, h1, h2, rfl, hb⟩ | ⟨h1, _⟩
  · obtain rfl : x = y := hx.symm.trans h1
    exact gives_zero hb
  · exact absurd (hx.symm.trans h1) h0
/-- Where Take gives a space, a frame is free. -/
theorem takeE_zero {s : Int} {nw n : Nat} {wd : Nat → Int} {F : Nat → Fr} {o b : Int} (h : takeE s nw wd n F o b = 0) : ValidP s nw wd n F ∧ cntP (owB F (-1)) n ≠ 0 ∧ okO o = true ∧ okB b = true := by
  unfold takeE at h
  by_cases h1 : (validB s nw wd n F && okO o && okB b) = false
  · rw [if_pos h1] at h; exact absurd h (by decide)
  · rw [if_neg h1] at h
    by_cases h2 : anyB F o (b * 4294967296 + o) n = true
    · rw [if_pos h2] at h; exact absurd h (by decide)
    · rw [if_neg h2] at h
      by_cases h3 : cntP (owB F (-1)) n = 0
      · rw [if_pos h3] at h; exact absurd h (by decide)
      · have h4 : (validB s nw wd n F && okO o && okB b) = true := (Bool.not_eq_false _).mp h1
        simp at h4
        exact ⟨validB_of h4.1.1, h3, h4.1.2, h4.2⟩
theorem giveE_zero {s : Int} {nw n : Nat} {wd : Nat → Int} {F : Nat → Fr} {o : Int} (h : giveE s nw wd n F o = 0) : ValidP s nw wd n F ∧ cntP (owB F o) n ≠ 0 ∧ okO o = true := by
  unfold giveE at h
  by_cases h1 : (validB s nw wd n F && okO o) = false
  · rw [if_pos h1] at h; exact absurd h (by decide)
  · rw [if_neg h1] at h
    by_cases h3 : cntP (owB F o) n = 0
    · rw [if_pos h3] at h; exact absurd h (by decide)
    · have h4 : (validB s nw wd n F && okO o) = true := (Bool.not_eq_false _).mp h1
      simp at h4
      exact ⟨validB_of h4.1, h3, h4.2⟩
/-- Whatever the space: what Take gives is the same on both sides. -/
theorem take_val (s : Int) (nw : Nat) (wd : Nat → Int) (n : Nat) (F : Nat → Fr) (o b : Int) : ∃ (s' : Int) (nw' n' : Nat) (wd' : Nat → Int) (F' : Nat → Fr) (f x : Int), nw' ≤ 1048576 ∧ n' ≤ 4096 ∧ ∀ w e w', TakeOut s nw wd n F o b w e w' → GivesSp s' nw' n' wd' F' f x w e w' := by
  by_cases h : takeE s nw wd n F o b = 0
  · obtain ⟨hv, hc, _, _⟩ := takeE_zero h
    obtain ⟨n0, n64, w0, w20⟩ := take_bounds hv
    obtain ⟨f, hl, _⟩ := least_of n64 hc
    exact ⟨_, _, _, _, _, _, _, by omega, by omega, fun w e w' ht => (ht.yes h hl).gives⟩
  · exact ⟨_, _, _, _, _, _, _, by decide, by decide, fun w e w' ht => ht.err rfl h⟩
theorem give_val (s : Int) (nw : Nat) (wd : Nat → Int) (n : Nat) (F : Nat → Fr) (o : Int) : ∃ (s' : Int) (nw' n' : Nat) (wd' : Nat → Int) (F' : Nat → Fr) (f x : Int), nw' ≤ 1048576 ∧ n' ≤ 4096 ∧ ∀ w e w', GiveOut s nw wd n F o w e w' → GivesSp s' nw' n' wd' F' f x w e w' := by
  by_cases h : giveE s nw wd n F o = 0
  · obtain ⟨hv, hc, ho⟩ := giveE_zero h
    obtain ⟨n0, n64, w0, w20⟩ := take_bounds hv
    exact ⟨_, _, _, _, _, _, _, by omega, by omega, fun w e w' ht => (ht.yes hv ho rfl hc).gives⟩
  · exact ⟨_, _, _, _, _, _, _, by decide, by decide, fun w e w' ht => ht.err rfl h⟩

/-- A box of a space whose rows are no older than it. -/
def SpBox (R : World) (s : Int) (nw n : Nat) (wd : Nat → Int) (F : Nat → Fr) (v : Value) (W : World) : Prop := ∃ (b : Nat) (A : Option Addr) (c : Nat) (A' : Option Addr) (c' : Nat), v = .pointer (some ⟨b, 0, none⟩) ∧ Blk W b 25 #[.int .i64 s, .slice A nw c, .slice A' n c'] ∧
  Arr W W.heap.size A nw c wd ∧ Tab W W.heap.size A' n c' F ∧ Below R.heap.size R W ∧ R.heap.size ≤ b
theorem spbox_late {R U wn : World} {s : Int} {nw n c c' : Nat} {wd : Nat → Int} {F : Nat → Fr} {A A' : Option Addr} (hU : Below R.heap.size R U) (hb : Below U.heap.size U wn) (ho : Own wn U.heap.size A nw c wd) (ht : OwnT wn U.heap.size A' n c' F) :
    SpBox R s nw n wd F (.pointer (some ⟨wn.heap.size, 0, none⟩)) (wn.alloc (.cells #[.int .i64 s, .slice A nw c, .slice A' n c'] 25)) := by
  have h1 : Below wn.heap.size wn (wn.alloc (.cells #[.int .i64 s, .slice A nw c, .slice A' n c'] 25)) := (Below.refl _ _).alloc (Nat.le_refl _) _
  have h2 := hU.size
  have h3 := hb.size
  exact ⟨_, A, c, A', c', rfl, Blk.new _ _ _, (ho.below h1).arr, (ht.below h1).tab, below_next (below_next hU (Nat.le_refl _) hb) (Nat.le_refl _) h1, by omega⟩
theorem spbox_early {R U wn : World} {s : Int} {nw n c c' b : Nat} {wd : Nat → Int} {F : Nat → Fr} {A A' : Option Addr} {cs : Array Value} (hbR : R.heap.size ≤ b) (hU : Below R.heap.size R U) (hb : Below U.heap.size U wn) (bb : Blk wn b 25 cs) (hbU : b < U.heap.size) (hcs : cs.size = 3) (ho : Own wn U.heap.size A nw c wd) (ht : OwnT wn U.heap.size A' n c' F) :
    SpBox R s nw n wd F (.pointer (some ⟨b, 0, none⟩)) (((wn.setCell ⟨b, 0, none⟩ (.int .i64 s)).setCell ⟨b, 1, none⟩ (.slice A nw c)).setCell ⟨b, 2, none⟩ (.slice A' n c')) := by
  have hset : ((cs.setIfInBounds 0 (.int .i64 s)).setIfInBounds 1 (.slice A nw c)).setIfInBounds 2 (.slice A' n c') = #[.int .i64 s, .slice A nw c, .slice A' n c'] := by
    obtain ⟨l⟩ := cs
    match l, hcs with
    | [_, _, _], _ => rfl
  refine ⟨b, A, c, A', c', rfl, ?_, (ho.put3 hbU _ _ _).arr, (ht.put3 hbU _ _ _).tab, below_put3 (below_next hU (Nat.le_refl _) hb) hbR _ _ _, hbR⟩
  rw [← hset]
  exact ((bb.set_ 0 _).set_ 1 _).set_ 2 _

/-! A frame taken and given back. -/
theorem cnt_lift {F : Nat → Fr} {n f : Nat} {o s : Int} (hl : Least F n f) (ho : o ≠ -1) : cntP (owB (lift F f o s) (-1)) n + 1 = cntP (owB F (-1)) n := by
  have h := freeN_lift (F := F) (o := o) (s := s) hl.2.1 ho n
  rw [if_pos hl.1, freeN_cnt, freeN_cnt] at h
  exact h
theorem cnt_one {F : Nat → Fr} {n f : Nat} {o s : Int} (hf : f < n) (ho : ∀ j, j < n → (F j).ow ≠ o) : cntP (owB (lift F f o s) o) n = 1 := by
  have key : ∀ t, t ≤ n → cntP (owB (lift F f o s) o) t = if f < t then 1 else 0 := by
    intro t
    induction t with
    | zero => intro _; rfl
    | succ t ih =>
      intro ht
      simp only [cntP]
      rw [ih (by omega)]
      by_cases e : t = f
      · subst e
        rw [owB_yes (by rw [lift_same])]
        simp
      · rw [owB_no (by rw [lift_other e]; exact ho t (by omega))]
        by_cases e2 : f < t
        · have e3 : f < t + 1 := by omega
          simp [e2, e3]
        · have e3 : ¬ f < t + 1 := by omega
          simp [e2, e3]
  rw [key n (Nat.le_refl _), if_pos hf]
theorem back_F {F : Nat → Fr} {n f : Nat} {o s : Int} (hl : F f = frFree) (ho : ∀ j, j < n → (F j).ow ≠ o) (j : Nat) (hj : j < n) : giveF (lift F f o s) o n j = F j := by
  unfold giveF
  by_cases e : j = f
  · subst e; rw [lift_same, if_pos ⟨hj, rfl⟩, hl]
  · rw [lift_other e, if_neg (fun h => ho j hj h.2)]
theorem back_W {k n f : Nat} {nw : Nat} {wd : Nat → Int} {F : Nat → Fr} {o s : Int} (hv : ValidP k nw wd n F) (hl : F f = frFree) (hf : f < n) (ho : ∀ j, j < n → (F j).ow ≠ o) (a : Nat) (ha : a < nw) : giveW wd (lift F f o s) o (k : Int).toNat n a = wd a := by
  have hnw := hv.2.2.1
  rw [Int.toNat_natCast] at hnw ⊢
  unfold giveW
  have hq : a / 2 ^ k < n := Nat.div_lt_of_lt_mul (by rw [Nat.mul_comm, ← hnw]; exact ha)
  by_cases e : a / 2 ^ k = f
  · rw [e, lift_same, if_pos ⟨hf, rfl⟩]
    have hz := hv.zr f hf hl
    have h1 := of_decide_eq_true hz
    have h2 := h1 (a % 2 ^ k) (Nat.mod_lt _ (Nat.pow_pos (by decide)))
    rw [Int.toNat_natCast, ← e, Nat.mul_comm, Nat.div_add_mod] at h2
    exact h2.symm
  · rw [lift_other e, if_neg (fun h => ho _ hq h.2)]
theorem first_free {F : Nat → Fr} {n f : Nat} (hl : Least F n f) : numF (ownL F (-1) n) 0 = f := by
  obtain ⟨i, h1, h2, h3, h4, h5, _⟩ := nth_member (owB F (-1)) (t := 0) (j := 0) (n := n) (Nat.zero_le _) rfl (by
    have h : cntP (owB F (-1)) (f + 1) ≤ cntP (owB F (-1)) n := cntP_mono _ (by have := hl.1; omega)
    simp only [cntP] at h
    rw [owB_yes hl.2.1] at h
    simp at h
    omega)
  obtain rfl : f = i := least_is hl h2 (of_decide_eq_true h3) (fun j hj => of_decide_eq_false (h4 j (Nat.zero_le _) hj))
  exact h5
end Go.Proofs.Ytjkbjbikofindaa

namespace Go.Proofs.Ytjkbjbikofindaa
open Go.RowKit
set_option maxRecDepth 100000
set_option linter.unusedVariables false

/-- The box at b holds this space. -/
def SpIn (R : World) (b : Nat) (s : Int) (nw n : Nat) (wd : Nat → Int) (F : Nat → Fr) (W : World) : Prop := ∃ (A : Option Addr) (c : Nat) (A' : Option Addr) (c' : Nat), Blk W b 25 #[.int .i64 s, .slice A nw c, .slice A' n c'] ∧
  Arr W W.heap.size A nw c wd ∧ Tab W W.heap.size A' n c' F ∧ (∀ B, B ≤ b → B ≤ R.heap.size → Below B R W) ∧ ∀ b', b' < R.heap.size → b' ≠ b → W.heap[b']? = R.heap[b']?
theorem spin_put {R U wn : World} {s : Int} {nw n c c' b : Nat} {wd : Nat → Int} {F : Nat → Fr} {A A' : Option Addr} {a0 a1 a2 : Value} (hU : Below R.heap.size R U) (hb : Below U.heap.size U wn) (bb : Blk wn b 25 #[a0, a1, a2]) (hbU : b < R.heap.size) (ho : Own wn U.heap.size A nw c wd) (ht : OwnT wn U.heap.size A' n c' F) :
    SpIn R b s nw n wd F (((wn.setCell ⟨b, 0, none⟩ (.int .i64 s)).setCell ⟨b, 1, none⟩ (.slice A nw c)).setCell ⟨b, 2, none⟩ (.slice A' n c')) := by
  have h2 := hU.size
  have h3 := below_next hU (Nat.le_refl _) hb
  exact ⟨A, c, A', c', bb.set3 _ _ _, (ho.put3 (by omega) _ _ _).arr, (ht.put3 (by omega) _ _ _).tab, fun B hB hR => below_put3 (h3.mono hR) hB _ _ _, fun b' hlt hne => ((Below.heap_setCell _ ⟨b, 2, none⟩ _ b' hne).trans ((Below.heap_setCell _ ⟨b, 1, none⟩ _ b' hne).trans (Below.heap_setCell wn ⟨b, 0, none⟩ _ b' hne))).trans (h3.block b' hlt)⟩

theorem cell_heap {R W : World} {b o : Nat} (h : W.heap[b]? = R.heap[b]?) : W.cell? ⟨b, o, none⟩ = R.cell? ⟨b, o, none⟩ := by simp [World.cell?, h]
/-- Rows stay where a box of a space alone has turned. -/
theorem Arr.box_turn {R W : World} {b n c : Nat} {A : Option Addr} {f : Nat → Int} {a0 : Int} {v1 v2 : Option Addr} {n1 c1 n2 c2 : Nat} (h : Arr R R.heap.size A n c f) (hB : Blk R b 25 #[.int .i64 a0, .slice v1 n1 c1, .slice v2 n2 c2])
    (hk : ∀ b', b' < R.heap.size → b' ≠ b → W.heap[b']? = R.heap[b']?) (hs : R.heap.size ≤ W.heap.size) : Arr W W.heap.size A n c f := by
  refine ⟨h.1, h.2.1, h.2.2.1, fun hn => ?_⟩
  obtain ⟨x, o, hA, hx, hc⟩ := h.2.2.2 hn
  have hne : x ≠ b := by
    intro e
    subst e
    have h0 := hc 0 hn
    rw [hB.cell] at h0
    rcases (show o + 0 = 0 ∨ o + 0 = 1 ∨ o + 0 = 2 ∨ 3 ≤ o + 0 by omega) with e | e | e | e
    · rw [e] at h0; simp at h0
    · rw [e] at h0; simp at h0
    · rw [e] at h0; simp at h0
    · rw [Array.getElem?_eq_none (by simpa using e)] at h0; cases h0
  exact ⟨x, o, hA, by omega, fun j hj => (cell_heap (hk x hx hne)).trans (hc j hj)⟩
theorem Tab.box_turn {R W : World} {b n c : Nat} {A : Option Addr} {F : Nat → Fr} {a0 : Int} {v1 v2 : Option Addr} {n1 c1 n2 c2 : Nat} (h : Tab R R.heap.size A n c F) (hB : Blk R b 25 #[.int .i64 a0, .slice v1 n1 c1, .slice v2 n2 c2])
    (hk : ∀ b', b' < R.heap.size → b' ≠ b → W.heap[b']? = R.heap[b']?) (hs : R.heap.size ≤ W.heap.size) : Tab W W.heap.size A n c F := by
  refine ⟨h.1, h.2.1, h.2.2.1, fun hn => ?_⟩
  obtain ⟨x, o, hA, hx, hc⟩ := h.2.2.2 hn
  have hne : x ≠ b := by
    intro e
    subst e
    obtain ⟨h0, h1, _⟩ := hc 0 hn
    rw [hB.cell] at h0 h1
    rcases (show o + 0 * 3 = 0 ∨ o + 0 * 3 = 1 ∨ o + 0 * 3 = 2 ∨ 3 ≤ o + 0 * 3 by omega) with e | e | e | e
    · rw [e] at h1; simp at h1
    · rw [e] at h0; simp at h0
    · rw [e] at h0; simp at h0
    · rw [Array.getElem?_eq_none (by simpa using e)] at h0; cases h0
  exact ⟨x, o, hA, by omega, fun j hj => ⟨(cell_heap (hk x hx hne)).trans (hc j hj).1, (cell_heap (hk x hx hne)).trans (hc j hj).2.1, (cell_heap (hk x hx hne)).trans (hc j hj).2.2⟩⟩

end Go.Proofs.Ytjkbjbikofindaa
