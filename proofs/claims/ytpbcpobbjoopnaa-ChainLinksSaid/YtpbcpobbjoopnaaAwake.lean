/-
  The laws' example of layer 4; what taking and giving back make of a valid space.
-/
import Derived.Test.YtpbcpobbjoopnaaRefGive
import Derived.Test.YtpbcpobbjoopnaaSpace
namespace Go.Proofs.Ytpbcpobbjoopnaa
open Go.RowKit
set_option maxRecDepth 100000
set_option linter.unusedVariables false

theorem stB_owner {o b : Int} (ho : okO o = true) (hb : okB b = true) : stB (b * 4294967296 + o) o = true := by
  have h1 := of_decide_eq_true ho
  have h2 := of_decide_eq_true hb
  refine (stB_of ⟨h1.1, h1.2, ?_⟩).symm
  omega
theorem valid_lift {s : Int} {nw n f : Nat} {wd : Nat → Int} {F : Nat → Fr} {o b : Int} (h : ValidP s nw wd n F) (hf : Least F n f) (ho : okO o = true) (hb : okB b = true) : ValidP s nw wd n (lift F f o (b * 4294967296 + o)) := by
  have hfr : F f = frFree := h.fv.free hf.1 hf.2.1
  have h1 := of_decide_eq_true ho
  exact ValidP.mk_ h.1 h.2.1 h.2.2.1 (lift_fv h.fv hfr (stB_owner ho hb)) (h.zr.mono (fun j _ hj => lift_free (by omega) hj))
theorem takeE_ok {s : Int} {nw n : Nat} {wd : Nat → Int} {F : Nat → Fr} {o b : Int} (h : ValidP s nw wd n F) (ho : okO o = true) (hb : okB b = true) (h2 : ∀ f, f < n → (F f).ow = o → (F f).st = b * 4294967296 + o) (h3 : ∃ f, f < n ∧ (F f).ow = -1) : takeE s nw wd n F o b = 0 := by
  refine take_ok (by rw [validB_yes h, ho, hb]; rfl) ?_ ?_
  · cases e : anyB F o (b * 4294967296 + o) n
    · rfl
    · obtain ⟨f, a1, a2, a3⟩ := (anyB_iff F o (b * 4294967296 + o) n).1 e
      exact absurd (h2 f a1 a2) a3
  · obtain ⟨f, a1, a2⟩ := h3
    intro e
    have h4 : cntP (owB F (-1)) (f + 1) ≤ cntP (owB F (-1)) n := cntP_mono _ (by omega)
    simp only [cntP] at h4
    rw [owB_yes a2] at h4
    simp at h4
    omega
theorem least_is {F : Nat → Fr} {n f g : Nat} (h : Least F n f) (hg : g < n) (h1 : (F g).ow = -1) (h2 : ∀ j, j < g → (F j).ow ≠ -1) : f = g := by
  rcases Nat.lt_trichotomy f g with e | e | e
  · exact absurd h.2.1 (h2 f e)
  · exact e
  · exact absurd h1 (h.2.2 g e)
/-- What Take gives where it gives a space. -/
def TakeYes (s : Int) (nw : Nat) (wd : Nat → Int) (n : Nat) (F : Nat → Fr) (f : Nat) (o b : Int) (w : World) (e : Ending) (w' : World) : Prop :=
  ∃ (A1 : Option Addr) (c1 g c2 : Nat), e = .returned (.tuple #[.agg #[.int .i64 s, .slice A1 nw c1, .slice (some ⟨g, 0, none⟩) n c2], .int .i64 f, .int .i64 0]) ∧
    Own w' w.heap.size A1 nw c1 wd ∧ OwnT w' w.heap.size (some ⟨g, 0, none⟩) n c2 (lift F f o (b * 4294967296 + o)) ∧ Below w.heap.size w w'
theorem TakeOut.yes {s : Int} {nw n f : Nat} {wd : Nat → Int} {F : Nat → Fr} {o b : Int} {w w' : World} {e : Ending} (h : TakeOut s nw wd n F o b w e w') (h0 : takeE s nw wd n F o b = 0) (hf : Least F n f) : TakeYes s nw wd n F f o b w e w' := by
  rcases h with ⟨x, h1, h2, _⟩ | ⟨_, f', A1, c1, g, c2, hl, he, h1, h2, h3⟩
  · exact absurd (h1.symm.trans h0) h2
  · obtain rfl : f' = f := least_is hl hf.1 hf.2.1 hf.2.2
    exact ⟨A1, c1, g, c2, he, h1, h2, h3⟩
def GiveYes (s : Int) (nw : Nat) (wd : Nat → Int) (n : Nat) (F : Nat → Fr) (m : Nat) (o : Int) (w : World) (e : Ending) (w' : World) : Prop :=
  ∃ (A1 : Option Addr) (c1 g c2 : Nat), e = .returned (.tuple #[.agg #[.int .i64 s, .slice A1 nw c1, .slice (some ⟨g, 0, none⟩) n c2], .int .i64 m, .int .i64 0]) ∧
    Own w' w.heap.size A1 nw c1 (giveW wd F o s.toNat n) ∧ OwnT w' w.heap.size (some ⟨g, 0, none⟩) n c2 (giveF F o n) ∧ Below w.heap.size w w'
theorem GiveOut.yes {s : Int} {nw n m : Nat} {wd : Nat → Int} {F : Nat → Fr} {o : Int} {w w' : World} {e : Ending} (h : GiveOut s nw wd n F o w e w') (hv : ValidP s nw wd n F) (ho : okO o = true) (hm : cntP (owB F o) n = m) (h0 : m ≠ 0) : GiveYes s nw wd n F m o w e w' := by
  rcases h with ⟨x, h1, h2, _⟩ | ⟨_, A1, c1, g, c2, he, h1, h2, h3⟩
  · have := give_ok (s := s) (nw := nw) (wd := wd) (F := F) (o := o) (n := n) (by rw [validB_yes hv, ho]; rfl) (by rw [hm]; exact h0)
    exact absurd (h1.symm.trans this) h2
  · rw [hm] at he
    exact ⟨A1, c1, g, c2, he, h1, h2, h3⟩

def F0 : Nat → Fr := fun _ => frFree
def F1 : Nat → Fr := lift F0 0 5 (0 * 4294967296 + 5)
def F2 : Nat → Fr := lift F1 1 6 (1 * 4294967296 + 6)
def F3 : Nat → Fr := lift F0 1 6 (1 * 4294967296 + 6)
theorem aw_v0 : ValidP (3 : Int) 24 (fun _ => 0) 3 F0 := valid_fresh (k := 3) (n := 3) (by decide) (by decide) (by decide) (by decide)
theorem aw_l0 : Least F0 3 0 := ⟨by decide, rfl, fun j hj => absurd hj (by omega)⟩
theorem aw_v1 : ValidP (3 : Int) 24 (fun _ => 0) 3 F1 := valid_lift aw_v0 aw_l0 (by decide) (by decide)
theorem aw_l1 : Least F1 3 1 := by
  refine ⟨by decide, rfl, fun j hj => ?_⟩
  have e : j = 0 := by omega
  subst e
  decide
theorem aw_v2 : ValidP (3 : Int) 24 (fun _ => 0) 3 F2 := valid_lift aw_v1 aw_l1 (by decide) (by decide)
theorem aw_v3 : ValidP (3 : Int) 24 (fun _ => 0) 3 F3 := by
  have hfr : F0 1 = frFree := rfl
  exact ValidP.mk_ aw_v0.1 aw_v0.2.1 aw_v0.2.2.1 (lift_fv aw_v0.fv hfr (stB_owner (by decide) (by decide))) (aw_v0.zr.mono (fun j _ hj => lift_free (by decide) hj))
theorem aw_g2 : ∀ j, j < 3 → giveF F2 5 3 j = F3 j := by
  intro j hj
  rcases (show j = 0 ∨ j = 1 ∨ j = 2 by omega) with rfl | rfl | rfl <;> rfl
theorem aw_l3 : Least F3 3 0 := ⟨by decide, rfl, fun j hj => absurd hj (by omega)⟩
theorem aw_t0 : takeE (3 : Int) 24 (fun _ => 0) 3 F0 5 0 = 0 := takeE_ok aw_v0 (by decide) (by decide) (fun f _ h => absurd h (by show ¬ (-1 : Int) = 5; decide)) ⟨0, by decide, rfl⟩
theorem aw_t1 : takeE (3 : Int) 24 (fun _ => 0) 3 F1 6 1 = 0 := takeE_ok aw_v1 (by decide) (by decide) (fun f hf h => by
  rcases (show f = 0 ∨ f = 1 ∨ f = 2 by omega) with rfl | rfl | rfl <;> exact absurd h (by decide)) ⟨1, by decide, rfl⟩
theorem aw_t3 : takeE (3 : Int) 24 (fun _ => 0) 3 F3 7 0 = 0 := takeE_ok aw_v3 (by decide) (by decide) (fun f hf h => by
  rcases (show f = 0 ∨ f = 1 ∨ f = 2 by omega) with rfl | rfl | rfl <;> exact absurd h (by decide)) ⟨0, by decide, rfl⟩

theorem Blk.set3 {w : World} {b : Nat} {t : TypeId} {a0 a1 a2 : Value} (h : Blk w b t #[a0, a1, a2]) (v0 v1 v2 : Value) : Blk (((w.setCell ⟨b, 0, none⟩ v0).setCell ⟨b, 1, none⟩ v1).setCell ⟨b, 2, none⟩ v2) b t #[v0, v1, v2] :=
  ((h.set_ 0 v0).set_ 1 v1).set_ 2 v2
theorem Arr.put3 {w : World} {B b n c : Nat} {A : Option Addr} {f : Nat → Int} (h : Arr w B A n c f) (hb : B ≤ b) (v0 v1 v2 : Value) : Arr (((w.setCell ⟨b, 0, none⟩ v0).setCell ⟨b, 1, none⟩ v1).setCell ⟨b, 2, none⟩ v2) B A n c f :=
  h.below (below_put3 (Below.refl _ _) hb _ _ _)

end Go.Proofs.Ytpbcpobbjoopnaa
