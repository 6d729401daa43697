/-
  Plain mathematics of layer 8: what a store into a field leaves. Nothing here speaks of the program's text.
-/
import Derived.Test.YtfjdafnejhgijaaAw8
import Derived.Test.YtfjdafnejhgijaaObs
namespace Go.Proofs.Ytfjdafnejhgijaa
open Go.RowKit
set_option maxRecDepth 100000
set_option linter.unusedVariables false

section
variable {K nw n : Nat} {wd wd' : Nat → Int} {F : Nat → Fr} {a i v : Int} {t : Bool}
theorem shp_same (hv : ValidP K nw wd n F) (hv' : ValidP K nw wd' n F) (e : wd' a.toNat = wd a.toNat) : shpE K nw wd' n F a = shpE K nw wd n F a ∧ shpR K nw wd' n F a = shpR K nw wd n F a ∧ shpD K nw wd' n F a = shpD K nw wd n F a := by
  have h1 : shpE K nw wd' n F a = shpE K nw wd n F a := by
    unfold shpE
    rw [e, (stp_words hv hv' a 0).1, (stp_words hv hv' a _).1]
  exact ⟨h1, by unfold shpR; rw [h1, e], by unfold shpD; rw [h1, e]⟩
theorem plc_same (hv : ValidP K nw wd n F) (hv' : ValidP K nw wd' n F) (e : wd' a.toNat = wd a.toNat) : plcE K nw wd' n F a i t = plcE K nw wd n F a i t ∧ plcV K nw wd' n F a i t = plcV K nw wd n F a i t := by
  obtain ⟨h1, h2, h3⟩ := shp_same hv hv' e
  have h4 : fldN K nw wd' n F a t = fldN K nw wd n F a t := by unfold fldN; rw [h2, h3]
  have h5 : fldK K nw wd' n F a i t = fldK K nw wd n F a i t := by unfold fldK; rw [h2]
  have h6 : plcE K nw wd' n F a i t = plcE K nw wd n F a i t := by unfold plcE; rw [h1, h4]
  exact ⟨h6, by unfold plcV; rw [h6, h5, (stp_words hv hv' a _).2]⟩
/-- Where a field stands: its place behind the header. -/
theorem plc_at (hu : U64w nw wd) (h : plcE K nw wd n F a i t = 0) : ∃ u : Nat, 1 ≤ u ∧ (u : Int) ≤ shpR K nw wd n F a + shpD K nw wd n F a ∧ plcV K nw wd n F a i t = stpV K nw wd n F a u ∧ stpE K nw wd n F a u = 0 ∧ (u : Int) = fldK K nw wd n F a i t := by
  obtain ⟨h1, h2, h3⟩ := plc_yes h
  obtain ⟨s1, s2, s3, s4⟩ := fld_step hu h1 h2 h3
  refine ⟨(fldK K nw wd n F a i t).toNat, by omega, by omega, ?_, ?_, by omega⟩
  · rw [(plc_ok h1 h2 h3).2]
    congr 1
    omega
  · rw [show (((fldK K nw wd n F a i t).toNat : Nat) : Int) = fldK K nw wd n F a i t by omega]
    exact s1
theorem set_valid (hv : ValidP K nw wd n F) (hu : U64w nw wd) (h : plcE K nw wd n F a i t = 0) : ValidP K nw (setW K nw wd n F a i t v) n F := by
  obtain ⟨u, _, _, e, hs, _⟩ := plc_at hu h
  obtain ⟨z, r, e2, hr, hz, ho, _⟩ := stp_word hs
  have hzr := hv.zr
  rw [Int.toNat_natCast] at hzr
  have h1 := hzr.write ho hr (p := (plcV K nw wd n F a i t).toNat) (by rw [e, e2, Int.toNat_natCast]) v
  exact ValidP.mk_ hv.1 hv.2.1 hv.2.2.1 hv.fv (by rw [Int.toNat_natCast]; exact h1)
theorem set_u64 (hu : U64w nw wd) (v0 : 0 ≤ v) (v1 : v < 18446744073709551616) : U64w nw (setW K nw wd n F a i t v) := fun j hj => by
  unfold setW
  by_cases e : j = (plcV K nw wd n F a i t).toNat
  · rw [if_pos e]; exact ⟨v0, v1⟩
  · rw [if_neg e]; exact hu j hj
theorem objs_apart {I : List IncR} {N jx jy u u' : Nat} {l : List Nat} (hu : U64w nw wd) (hv : ValidP K nw wd n F) (hall : AllP F n K I) (h : ObjsP K nw wd n F I N l) (hx : jx < l.length) (hy : jy < l.length)
    (hux : (u : Int) ≤ shpR K nw wd n F ((l.getD jx 0 : Nat) : Int) + shpD K nw wd n F ((l.getD jx 0 : Nat) : Int)) (huy : (u' : Int) ≤ shpR K nw wd n F ((l.getD jy 0 : Nat) : Int) + shpD K nw wd n F ((l.getD jy 0 : Nat) : Int))
    (e : stpV K nw wd n F ((l.getD jx 0 : Nat) : Int) u = stpV K nw wd n F ((l.getD jy 0 : Nat) : Int) u') : jx = jy ∧ u = u' := by
  obtain ⟨f, q, h1⟩ := h
  obtain ⟨x1, x2, x3⟩ := h1 jx hx
  obtain ⟨y1, y2, y3⟩ := h1 jy hy
  obtain ⟨e1, e2⟩ := obj_apart hu hv hall x2 y2 hux huy e
  rcases Nat.lt_trichotomy jx jy with c | c | c
  · rcases y3 jx c with d | d
    · exact absurd e1 d
    · omega
  · subst c; exact ⟨rfl, by omega⟩
  · rcases x3 jy c with d | d
    · exact absurd e1.symm d
    · omega
/-- The objects of the list are objects. -/
theorem objs_shape {I : List IncR} {N j : Nat} {l : List Nat} (h : ObjsP K nw wd n F I N l) (hj : j < l.length) : shpE K nw wd n F ((l.getD j 0 : Nat) : Int) = 0 := by
  obtain ⟨f, q, h1⟩ := h
  obtain ⟨_, ⟨_, _, _, h2, _⟩, _⟩ := h1 j hj
  exact h2
/-- A store into a field of one object leaves the header of each. -/
theorem set_head {I : List IncR} {N jx jy : Nat} {l : List Nat} (hu : U64w nw wd) (hv : ValidP K nw wd n F) (hall : AllP F n K I) (h : ObjsP K nw wd n F I N l) (hx : jx < l.length) (hy : jy < l.length)
    (hp : plcE K nw wd n F ((l.getD jx 0 : Nat) : Int) i t = 0) : setW K nw wd n F ((l.getD jx 0 : Nat) : Int) i t v (((l.getD jy 0 : Nat) : Int)).toNat = wd (((l.getD jy 0 : Nat) : Int)).toNat := by
  obtain ⟨u, u1, u2, e, hs, _⟩ := plc_at hu hp
  unfold setW
  rw [if_neg]
  intro e2
  obtain ⟨P, hP, _⟩ := stp_nat hs
  have h0 := (shp_yes (objs_shape h hy)).1
  have hr := shp_range (s := K) (n := n) (F := F) (a := ((l.getD jy 0 : Nat) : Int)) hu
  have := objs_apart hu hv hall h hx hy u2 (u' := 0) (by omega) (by
    show _ = stpV K nw wd n F ((l.getD jy 0 : Nat) : Int) 0
    rw [stp_self h0, hP]
    rw [e, hP, Int.toNat_natCast] at e2
    omega)
  omega
/-- A store into a field of one object leaves the fields of the others. -/
theorem set_field {I : List IncR} {N jx jy : Nat} {l : List Nat} {i' : Int} {t' : Bool} (hu : U64w nw wd) (hv : ValidP K nw wd n F) (hall : AllP F n K I) (h : ObjsP K nw wd n F I N l) (hx : jx < l.length) (hy : jy < l.length) (hne : jx ≠ jy)
    (hp : plcE K nw wd n F ((l.getD jx 0 : Nat) : Int) i t = 0) : getV K nw (setW K nw wd n F ((l.getD jx 0 : Nat) : Int) i t v) n F ((l.getD jy 0 : Nat) : Int) i' t' = getV K nw wd n F ((l.getD jy 0 : Nat) : Int) i' t' := by
  obtain ⟨u, u1, u2, e, hs, _⟩ := plc_at hu hp
  obtain ⟨P, hP, _⟩ := stp_nat hs
  obtain ⟨a1, a2⟩ := plc_same (i := i') (t := t') hv (set_valid (v := v) hv hu hp) (set_head (v := v) hu hv hall h hx hy hp)
  unfold getV
  rw [a1, a2]
  by_cases h0 : plcE K nw wd n F ((l.getD jy 0 : Nat) : Int) i' t' = 0
  · rw [if_pos h0, if_pos h0]
    unfold setW
    rw [if_neg]
    intro e2
    obtain ⟨u', w1, w2, e3, hs', _⟩ := plc_at hu h0
    obtain ⟨Q, hQ, _⟩ := stp_nat hs'
    rw [e, e3, hP, hQ, Int.toNat_natCast, Int.toNat_natCast] at e2
    exact hne (objs_apart hu hv hall h hx hy u2 w2 (by rw [hP, hQ, e2])).1
  · rw [if_neg h0, if_neg h0]
/-- What was written is read again. -/
theorem set_get (hu : U64w nw wd) (hv : ValidP K nw wd n F) (hp : plcE K nw wd n F a i t = 0) (hh : setW K nw wd n F a i t v a.toNat = wd a.toNat) :
    plcE K nw (setW K nw wd n F a i t v) n F a i t = 0 ∧ getV K nw (setW K nw wd n F a i t v) n F a i t = v := by
  obtain ⟨a1, a2⟩ := plc_same (i := i) (t := t) hv (set_valid (v := v) hv hu hp) hh
  refine ⟨a1.trans hp, ?_⟩
  unfold getV
  rw [a1, a2, if_pos hp]
  unfold setW
  rw [if_pos rfl]
end
theorem Nums.box_turn8 {R W : World} {b n c : Nat} {A : Option Addr} {f : Nat → Int} {a0 : Int} {v1 v2 : Option Addr} {n1 c1 n2 c2 : Nat} (h : Nums R R.heap.size A n c f) (hB : Blk R b 25 #[.int .i64 a0, .slice v1 n1 c1, .slice v2 n2 c2]) (hne : ∀ x o, A = some ⟨x, o, none⟩ → x ≠ b)
    (hk : ∀ b', b' < R.heap.size → b' ≠ b → W.heap[b']? = R.heap[b']?) (hs : R.heap.size ≤ W.heap.size) : Nums W W.heap.size A n c f := by
  refine ⟨h.1, h.2.1, h.2.2.1, fun hn => ?_⟩
  obtain ⟨x, o, hA, hx, hc⟩ := h.2.2.2 hn
  exact ⟨x, o, hA, by omega, fun j hj => (cell_heap (hk x hx (hne x o hA))).trans (hc j hj)⟩
theorem SetOut.any {s : Int} {nw n : Nat} {wd : Nat → Int} {F : Nat → Fr} {a i : Int} {t : Bool} {v : Int} {w w' : World} {e : Ending} (h : SetOut s nw n wd F a i t v w e w') :
    ∃ (k1 : Int) (A1 : Option Addr) (n1 c1 : Nat) (A2 : Option Addr) (n2 c2 : Nat) (y : Int), e = .returned (.tuple #[.agg #[.int .i64 k1, .slice A1 n1 c1, .slice A2 n2 c2], .int .i64 y]) ∧ Below w.heap.size w w' := by
  rcases h with ⟨y, _, _, rfl, hb⟩ | ⟨_, A, c, g, c', rfl, _, _, hb⟩
  · exact ⟨0, none, 0, 0, none, 0, 0, y, rfl, hb⟩
  · exact ⟨s, A, nw, c, _, n, c', 0, rfl, hb⟩
theorem SetOut.ok {s : Int} {nw n : Nat} {wd : Nat → Int} {F : Nat → Fr} {a i : Int} {t : Bool} {v : Int} {w w' : World} {e : Ending} (h : SetOut s nw n wd F a i t v w e w') (h0 : plcE s nw wd n F a i t = 0) :
    ∃ (A : Option Addr) (c g c' : Nat), e = .returned (.tuple #[.agg #[.int .i64 s, .slice A nw c, .slice (some ⟨g, 0, none⟩) n c'], .int .i64 0]) ∧
    Own w' w.heap.size A nw c (setW s nw wd n F a i t v) ∧ OwnT w' w.heap.size (some ⟨g, 0, none⟩) n c' F ∧ Below w.heap.size w w' := by
  rcases h with ⟨y, h1, h2, _⟩ | ⟨_, h⟩
  · exact absurd (h1.symm.trans h0) h2
  · exact h
end Go.Proofs.Ytfjdafnejhgijaa
