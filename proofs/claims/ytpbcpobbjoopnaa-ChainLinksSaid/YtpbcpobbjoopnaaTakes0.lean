/-
  Words for the walks of layer 4's laws: a call that gives a space, a number and an error; a box of a space.
-/
import Derived.Test.YtpbcpobbjoopnaaAwake
import Derived.Test.YtpbcpobbjoopnaaMakes
namespace Go.Proofs.Ytpbcpobbjoopnaa
open Go.RowKit
set_option maxRecDepth 100000
set_option linter.unusedVariables false

/-- A new space, a number and an error. -/
def GivesSp (s : Int) (nw n : Nat) (wd : Nat → Int) (F : Nat → Fr) (f x : Int) (w : World) (e : Ending) (w' : World) : Prop :=
  ∃ (A : Option Addr) (c : Nat) (A' : Option Addr) (c' : Nat), e = .returned (.tuple #[.agg #[.int .i64 s, .slice A nw c, .slice A' n c'], .int .i64 f, .int .i64 x]) ∧ Own w' w.heap.size A nw c wd ∧ OwnT w' w.heap.size A' n c' F ∧ Below w.heap.size w w'
theorem gives_zero {w w' : World} {x : Int} (h : Below w.heap.size w w') : GivesSp 0 0 0 (fun _ => 0) (fun _ => frFree) 0 x w (.returned (.tuple #[zSp, .int .i64 0, .int .i64 x])) w' :=
  ⟨none, 0, none, 0, rfl, Own.nil_ _ _ _, OwnT.nil_ _ _ _, h⟩
theorem TakeYes.gives {s : Int} {nw n f : Nat} {wd : Nat → Int} {F : Nat → Fr} {o b : Int} {w w' : World} {e : Ending} (h : TakeYes s nw wd n F f o b w e w') : GivesSp s nw n wd (lift F f o (b * 4294967296 + o)) f 0 w e w' := by
  obtain ⟨A1, c1, g, c2, he, h1, h2, h3⟩ := h
  exact ⟨A1, c1, _, c2, he, h1, h2, h3⟩
theorem GiveYes.gives {s : Int} {nw n m : Nat} {wd : Nat → Int} {F : Nat → Fr} {o : Int} {w w' : World} {e : Ending} (h : GiveYes s nw wd n F m o w e w') : GivesSp s nw n (giveW wd F o s.toNat n) (giveF F o n) m 0 w e w' := by
  obtain ⟨A1, c1, g, c2, he, h1, h2, h3⟩ := h
  exact ⟨A1, c1, _, c2, he, h1, h2, h3⟩
theorem TakeOut.err {s : Int} {nw n : Nat} {wd : Nat → Int} {F : Nat → Fr} {o b x : Int} {w w' : World} {e : Ending} (h : TakeOut s nw wd n F o b w e w') (hx : takeE s nw wd n F o b = x) (h0 : x ≠ 0) : GivesSp 0 0 0 (fun _ => 0) (fun _ => frFree) 0 x w e w' := by
  rcases h with ⟨y, h1, h2, rfl, hb⟩ | ⟨h1, _⟩
  · obtain rfl : x = y := hx.symm.trans h1
    exact gives_zero hb
  · exact absurd (hx.symm.trans h1) h0
theorem GiveOut.err {s : Int} {nw n : Nat} {wd : Nat → Int} {F : Nat → Fr} {o x : Int} {w w' : World} {e : Ending} (h : GiveOut s nw wd n F o w e w') (hx : giveE s nw wd n F o = x) (h0 : x ≠ 0) : GivesSp 0 0 0 (fun _ => 0) (fun _ => frFree) 0 x w e w' := by
  rcases h with ⟨y, h1, h2, rfl, hb⟩ | ⟨h1, _⟩
  · obtain rfl : x = y := hx.symm.trans h1
    exact gives_zero hb
  · exact absurd (hx.symm.trans h1) h0
/-- Where Take gives a space, a frame is free. -/
theorem takeE_zero {s : Int} {nw n : Nat} {wd : Nat → Int} {F : Nat → Fr} {o b : Int} (h : takeE s nw wd n F o b = 0) : ValidP s nw wd n F ∧ cntP (owB F (-1)) n ≠ 0 ∧ okO o = true ∧ okB b = true := by
  unfold takeE at h
  by_cases h1 : (validB s nw wd n F && okO o && okB b) = false
  · rw [if_pos h1] at h; exact absurd h (by decide)
  · rw [if_neg h1] at h
    by_cases h2 : anyB F o (b * 4294967296 + o) n = true
    · rw [if_pos h2] at h; exact absurd h (by decide)
    · rw [if_neg h2] at h
      by_cases h3 : cntP (owB F (-1)) n = 0
      · rw [if_pos h3] at h; exact absurd h (by decide)
      · have h4 : (validB s nw wd n F && okO o && okB b) = true := (Bool.not_eq_false _).mp h1
        simp at h4
        exact ⟨validB_of h4.1.1, h3, h4.1.2, h4.2⟩
theorem giveE_zero {s : Int} {nw n : Nat} {wd : Nat → Int} {F : Nat → Fr} {o : Int} (h : giveE s nw wd n F o = 0) : ValidP s nw wd n F ∧ cntP (owB F o) n ≠ 0 ∧ okO o = true := by
  unfold giveE at h
  by_cases h1 : (validB s nw wd n F && okO o) = false
  · rw [if_pos h1] at h; exact absurd h (by decide)
  · rw [if_neg h1] at h
    by_cases h3 : cntP (owB F o) n = 0
    · rw [if_pos h3] at h; exact absurd h (by decide)
    · have h4 : (validB s nw wd n F && okO o) = true := (Bool.not_eq_false _).mp h1
      simp at h4
      exact ⟨validB_of h4.1, h3, h4.2⟩
/-- Whatever the space: what Take gives is the same on both sides. -/
theorem take_val (s : Int) (nw : Nat) (wd : Nat → Int) (n : Nat) (F : Nat → Fr) (o b : Int) : ∃ (s' : Int) (nw' n' : Nat) (wd' : Nat → Int) (F' : Nat → Fr) (f x : Int), nw' ≤ 1048576 ∧ n' ≤ 4096 ∧ ∀ w e w', TakeOut s nw wd n F o b w e w' → GivesSp s' nw' n' wd' F' f x w e w' := by
  by_cases h : takeE s nw wd n F o b = 0
  · obtain ⟨hv, hc, _, _⟩ := takeE_zero h
    obtain ⟨n0, n64, w0, w20⟩ := take_bounds hv
    obtain ⟨f, hl, _⟩ := least_of n64 hc
    exact ⟨_, _, _, _, _, _, _, by omega, by omega, fun w e w' ht => (ht.yes h hl).gives⟩
  · exact ⟨_, _, _, _, _, _, _, by decide, by decide, fun w e w' ht => ht.err rfl h⟩
theorem give_val (s : Int) (nw : Nat) (wd : Nat → Int) (n : Nat) (F : Nat → Fr) (o : Int) : ∃ (s' : Int) (nw' n' : Nat) (wd' : Nat → Int) (F' : Nat → Fr) (f x : Int), nw' ≤ 1048576 ∧ n' ≤ 4096 ∧ ∀ w e w', GiveOut s nw wd n F o w e w' → GivesSp s' nw' n' wd' F' f x w e w' := by
  by_cases h : giveE s nw wd n F o = 0
  · obtain ⟨hv, hc, ho⟩ := giveE_zero h
    obtain ⟨n0, n64, w0, w20⟩ := take_bounds hv
    exact ⟨_, _, _, _, _, _, _, by omega, by omega, fun w e w' ht => (ht.yes hv ho rfl hc).gives⟩
  · exact ⟨_, _, _, _, _, _, _, by decide, by decide, fun w e w' ht => ht.err rfl h⟩

/-- A box of a space whose rows are no older than it. -/
def SpBox (R : World) (s : Int) (nw n : Nat) (wd : Nat → Int) (F : Nat → Fr) (v : Value) (W : World) : Prop := ∃ (b : Nat) (A : Option Addr) (c : Nat) (A' : Option Addr) (c' : Nat), v = .pointer (some ⟨b, 0, none⟩) ∧ Blk W b 25 #[.int .i64 s, .slice A nw c, .slice A' n c'] ∧
  Arr W W.heap.size A nw c wd ∧ Tab W W.heap.size A' n c' F ∧ Below R.heap.size R W ∧ R.heap.size ≤ b
theorem spbox_late {R U wn : World} {s : Int} {nw n c c' : Nat} {wd : Nat → Int} {F : Nat → Fr} {A A' : Option Addr} (hU : Below R.heap.size R U) (hb : Below U.heap.size U wn) (ho : Own wn U.heap.size A nw c wd) (ht : OwnT wn U.heap.size A' n c' F) :
    SpBox R s nw n wd F (.pointer (some ⟨wn.heap.size, 0, none⟩)) (wn.alloc (.cells #[.int .i64 s, .slice A nw c, .slice A' n c'] 25)) := by
  have h1 : Below wn.heap.size wn (wn.alloc (.cells #[.int .i64 s, .slice A nw c, .slice A' n c'] 25)) := (Below.refl _ _).alloc (Nat.le_refl _) _
  have h2 := hU.size
  have h3 := hb.size
  exact ⟨_, A, c, A', c', rfl, Blk.new _ _ _, (ho.below h1).arr, (ht.below h1).tab, below_next (below_next hU (Nat.le_refl _) hb) (Nat.le_refl _) h1, by omega⟩
theorem spbox_early {R U wn : World} {s : Int} {nw n c c' b : Nat} {wd : Nat → Int} {F : Nat → Fr} {A A' : Option Addr} {cs : Array Value} (hbR : R.heap.size ≤ b) (hU : Below R.heap.size R U) (hb : Below U.heap.size U wn) (bb : Blk wn b 25 cs) (hbU : b < U.heap.size) (hcs : cs.size = 3) (ho : Own wn U.heap.size A nw c wd) (ht : OwnT wn U.heap.size A' n c' F) :
    SpBox R s nw n wd F (.pointer (some ⟨b, 0, none⟩)) (((wn.setCell ⟨b, 0, none⟩ (.int .i64 s)).setCell ⟨b, 1, none⟩ (.slice A nw c)).setCell ⟨b, 2, none⟩ (.slice A' n c')) := by
  have hset : ((cs.setIfInBounds 0 (.int .i64 s)).setIfInBounds 1 (.slice A nw c)).setIfInBounds 2 (.slice A' n c') = #[.int .i64 s, .slice A nw c, .slice A' n c'] := by
    obtain ⟨l⟩ := cs
    match l, hcs with
    | [_, _, _], _ => rfl
  refine ⟨b, A, c, A', c', rfl, ?_, (ho.put3 hbU _ _ _).arr, (ht.put3 hbU _ _ _).tab, below_put3 (below_next hU (Nat.le_refl _) hb) hbR _ _ _, hbR⟩
  rw [← hset]
  exact ((bb.set_ 0 _).set_ 1 _).set_ 2 _

/-! A frame taken and given back. -/
theorem cnt_lift {F : Nat → Fr} {n f : Nat} {o s : Int} (hl : Least F n f) (ho : o ≠ -1) : cntP (owB (lift F f o s) (-1)) n + 1 = cntP (owB F (-1)) n := by
  have h := freeN_lift (F := F) (o := o) (s := s) hl.2.1 ho n
  rw [if_pos hl.1, freeN_cnt, freeN_cnt] at h
  exact h
theorem cnt_one {F : Nat → Fr} {n f : Nat} {o s : Int} (hf : f < n) (ho : ∀ j, j < n → (F j).ow ≠ o) : cntP (owB (lift F f o s) o) n = 1 := by
  have key : ∀ t, t ≤ n → cntP (owB (lift F f o s) o) t = if f < t then 1 else 0 := by
    intro t
    induction t with
    | zero => intro _; rfl
    | succ t ih =>
      intro ht
      simp only [cntP]
      rw [ih (by omega)]
      by_cases e : t = f
      · subst e
        rw [owB_yes (by rw [lift_same])]
        simp
      · rw [owB_no (by rw [lift_other e]; exact ho t (by omega))]
        by_cases e2 : f < t
        · have e3 : f < t + 1 := by omega
          simp [e2, e3]
        · have e3 : ¬ f < t + 1 := by omega
          simp [e2, e3]
  rw [key n (Nat.le_refl _), if_pos hf]
theorem back_F {F : Nat → Fr} {n f : Nat} {o s : Int} (hl : F f = frFree) (ho : ∀ j, j < n → (F j).ow ≠ o) (j : Nat) (hj : j < n) : giveF (lift F f o s) o n j = F j := by
  unfold giveF
  by_cases e : j = f
  · subst e; rw [lift_same, if_pos ⟨hj, rfl⟩, hl]
  · rw [lift_other e, if_neg (fun h => ho j hj h.2)]
theorem back_W {k n f : Nat} {nw : Nat} {wd : Nat → Int} {F : Nat → Fr} {o s : Int} (hv : ValidP k nw wd n F) (hl : F f = frFree) (hf : f < n) (ho : ∀ j, j < n → (F j).ow ≠ o) (a : Nat) (ha : a < nw) : giveW wd (lift F f o s) o (k : Int).toNat n a = wd a := by
  have hnw := hv.2.2.1
  rw [Int.toNat_natCast] at hnw ⊢
  unfold giveW
  have hq : a / 2 ^ k < n := Nat.div_lt_of_lt_mul (by rw [Nat.mul_comm, ← hnw]; exact ha)
  by_cases e : a / 2 ^ k = f
  · rw [e, lift_same, if_pos ⟨hf, rfl⟩]
    have hz := hv.zr f hf hl
    have h1 := of_decide_eq_true hz
    have h2 := h1 (a % 2 ^ k) (Nat.mod_lt _ (Nat.pow_pos (by decide)))
    rw [Int.toNat_natCast, ← e, Nat.mul_comm, Nat.div_add_mod] at h2
    exact h2.symm
  · rw [lift_other e, if_neg (fun h => ho _ hq h.2)]
theorem first_free {F : Nat → Fr} {n f : Nat} (hl : Least F n f) : numF (ownL F (-1) n) 0 = f := by
  obtain ⟨i, h1, h2, h3, h4, h5, _⟩ := nth_member (owB F (-1)) (t := 0) (j := 0) (n := n) (Nat.zero_le _) rfl (by
    have h : cntP (owB F (-1)) (f + 1) ≤ cntP (owB F (-1)) n := cntP_mono _ (by have := hl.1; omega)
    simp only [cntP] at h
    rw [owB_yes hl.2.1] at h
    simp at h
    omega)
  obtain rfl : f = i := least_is hl h2 (of_decide_eq_true h3) (fun j hj => of_decide_eq_false (h4 j (Nat.zero_le _) hj))
  exact h5
end Go.Proofs.Ytpbcpobbjoopnaa
