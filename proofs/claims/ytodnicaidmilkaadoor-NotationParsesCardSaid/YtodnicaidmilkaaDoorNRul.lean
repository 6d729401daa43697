/-
  The developers' reader: readRule.
-/
import Derived.Test.YtodnicaidmilkaaDoorNRdo
import Derived.Test.YtodnicaidmilkaaDoorCPre
namespace Go.Proofs.YtodnicaidmilkaaDoor
open Go.RowKit
set_option maxRecDepth 100000
set_option linter.unusedVariables false

theorem rul_ok {K : List Nat} {x l b t : Nat} {b1 b2 b3 b4 : Bool} (S1 : (∀ y, dshP K = some y → x = Sh.pctF y.1 ∧ b1 = true) ∧ (dshP K = none → b1 = false))
    (S2 : ∀ y, dshP K = some y → (∀ z, afterD tSl y.2 = some z → l = z.1 ∧ b2 = true) ∧ (afterD tSl y.2 = none → b2 = false))
    (S3 : ∀ y z, dshP K = some y → afterD tSl y.2 = some z → (∀ u, afterD tSl z.2 = some u → b = u.1 ∧ b3 = true) ∧ (afterD tSl z.2 = none → b3 = false))
    (S4 : ∀ y z u, dshP K = some y → afterD tSl y.2 = some z → afterD tSl z.2 = some u → (∀ v, afterD tGt u.2 = some v → t = v.1 ∧ b4 = true) ∧ (afterD tGt u.2 = none → b4 = false)) :
    (∀ y, drulP K = some y → x = Sh.pctF y.1.p ∧ l = y.1.l ∧ b = y.1.b ∧ t = y.1.t ∧ (((b1 && b2) && b3) && b4) = true) ∧ (drulP K = none → (((b1 && b2) && b3) && b4) = false) := by
  unfold drulP
  rcases e1 : dshP K with _ | y
  · have := S1.2 e1
    subst this
    exact ⟨fun y hy => (by cases hy), fun _ => rfl⟩
  · obtain ⟨rfl, rfl⟩ := S1.1 y e1
    rw [Option.bind_some]
    rcases e2 : afterD tSl y.2 with _ | z
    · have := (S2 y e1).2 e2
      subst this
      exact ⟨fun y hy => (by cases hy), fun _ => by simp⟩
    · obtain ⟨rfl, rfl⟩ := (S2 y e1).1 z e2
      rw [Option.bind_some]
      rcases e3 : afterD tSl z.2 with _ | u
      · have := (S3 y z e1 e2).2 e3
        subst this
        exact ⟨fun y hy => (by cases hy), fun _ => by simp⟩
      · obtain ⟨rfl, rfl⟩ := (S3 y z e1 e2).1 u e3
        rw [Option.bind_some]
        rcases e4 : afterD tGt u.2 with _ | v
        · have := (S4 y z u e1 e2 e3).2 e4
          subst this
          exact ⟨fun y hy => (by cases hy), fun _ => by simp⟩
        · obtain ⟨rfl, rfl⟩ := (S4 y z u e1 e2 e3).1 v e4
          rw [Option.bind_some]
          refine ⟨fun w hw => ?_, fun h => (by cases h)⟩
          injection hw with hw
          subst hw
          exact ⟨rfl, rfl, rfl, rfl, rfl⟩
theorem tSl_l2 : ({ data := #[47] } : ByteArray) = tx tSl := by decide
theorem tGt_l2 : ({ data := #[62] } : ByteArray) = tx tGt := by decide
/-- What readRule leaves. -/
def RuO (w : World) (rd : Nat) (T : List Nat) (o : Option (List Nat)) (e : Ending) (w' : World) : Prop :=
  ∃ (x l b t : Nat) (ok : Bool), e = .returned (.tuple #[.agg #[.float .f64 x, .int .i64 l, .int .i64 b, .int .i64 t], .bool ok]) ∧ x < 18446744073709551616 ∧ RdO w' rd T ((o.bind drulP).map (·.2)) ∧
    (∀ K, o = some K → (∀ y, drulP K = some y → x = Sh.pctF y.1.p ∧ l = y.1.l ∧ b = y.1.b ∧ t = y.1.t ∧ ok = true) ∧ (drulP K = none → ok = false)) ∧ w.grownBy w' (some rd)
set_option maxHeartbeats 8000000 in
theorem ruleO_any (rd : Nat) (T : List Nat) (o : Option (List Nat)) (w : World) (hT : Byt T) (hl : T.length ≤ 1024) (h : RdO w rd T o) :
    Calls Tryd.prog 63 #[.pointer (some ⟨rd, 0, none⟩)] w (RuO w rd T o) := by
  obtain ⟨U, hU⟩ : ∃ U, U = w.alloc (.cells #[.float .f64 0, .int .i64 0, .int .i64 0, .int .i64 0] 48) := ⟨_, rfl⟩
  have BR0 : Blk U w.heap.size 48 #[.float .f64 0, .int .i64 0, .int .i64 0, .int .i64 0] := by rw [hU]; exact Blk.new _ _ _
  have HG0 : Hid (w.grownBy U (some rd)) := by rw [hU]; exact Lib.hid (turn_below ((Below.refl _ _).alloc (Nat.le_refl _) _))
  have hrd := h.lt
  have h1 := shareO_any rd T o U hT hl (h.next (by rw [hU]; exact (Below.refl _ _).alloc (Nat.le_refl _) _))
  have HU := Lib.hid hU
  have lS := tSl_l2
  have lG := tGt_l2
  have hst := stF
  have HA := Lib.hid (fun (t : List Nat) (ht : Byt t) (q : Option (List Nat)) (W : World) h => afterO_any rd t T q W ht hT hl h)
  clear hU h
  go_enter Tryd.func63, Tryd.ntmps63
  go_wp2_with fail
  rw [← HU.out]
  go_wp2_with fail
  refine h1.mono ?_
  rintro e W1 ⟨x, b1, rfl, hx, hr1, hs1, hg1⟩
  have HS1 := Lib.hid hs1
  have HG1 := Lib.hid (turn_trans HG0.out hg1)
  have BR1 := BR0.turn hg1 (by omega)
  have hc2 := Lib.hid (HA.out tSl byt_fix.2.2.1 _ W1 hr1)
  clear h1 hr1 hs1 hg1 BR0
  go_wp2_with fail
  refine hc2.out.mono ?_
  rintro e W2 ⟨l, b2, rfl, hl9, hr2, hs2, hg2⟩
  have HS2 := Lib.hid hs2
  have HG2 := Lib.hid (turn_trans HG1.out hg2)
  have BR2 := BR1.turn hg2 (by omega)
  have hc3 := Lib.hid (HA.out tSl byt_fix.2.2.1 _ W2 hr2)
  clear hc2 hr2 hs2 hg2 BR1
  go_wp2_with fail
  refine hc3.out.mono ?_
  rintro e W3 ⟨b, b3, rfl, hb9, hr3, hs3, hg3⟩
  have HS3 := Lib.hid hs3
  have HG3 := Lib.hid (turn_trans HG2.out hg3)
  have BR3 := BR2.turn hg3 (by omega)
  have hc4 := Lib.hid (HA.out tGt byt_fix.2.2.2.1 _ W3 hr3)
  clear hc3 hr3 hs3 hg3 BR2
  go_wp2_with fail
  refine hc4.out.mono ?_
  rintro e W4 ⟨t, b4, rfl, ht9, hr4, hs4, hg4⟩
  have HS4 := Lib.hid hs4
  have HR4 := Lib.hid hr4
  have HG4 := Lib.hid (turn_trans HG3.out hg4)
  have BR4 := BR3.turn hg4 (by omega)
  have p0 := BR4.cell 0
  have p1 := BR4.cell 1
  have p2 := BR4.cell 2
  have p3 := BR4.cell 3
  have f0 := BR4.frozen 0
  have f1 := BR4.frozen 1
  have f2 := BR4.frozen 2
  have f3 := BR4.frozen 3
  simp at p0 p1 p2 p3
  have zr : w.heap.size < W4.heap.size := BR4.lt
  have HFIN : Hid (RuO w rd T o (.returned (.tuple #[.agg #[.float .f64 x, .int .i64 l, .int .i64 b, .int .i64 t], .bool (((b1 && b2) && b3) && b4)])) ((((W4.setCell ⟨w.heap.size, 0, none⟩ (.float .f64 x)).setCell ⟨w.heap.size, 1, none⟩ (.int .i64 l)).setCell ⟨w.heap.size, 2, none⟩ (.int .i64 b)).setCell ⟨w.heap.size, 3, none⟩ (.int .i64 t))) := Lib.hid (by
    have hk : ∀ K, o = some K → _ := fun K hK => rul_ok (K := K) (x := x) (l := l) (b := b) (t := t) (b1 := b1) (b2 := b2) (b3 := b3) (b4 := b4) (HS1.out K hK) (fun y hy => HS2.out y.2 (by rw [hK, Option.bind_some, hy]; rfl)) (fun y z hy hz => HS3.out z.2 (by rw [hK, Option.bind_some, hy]; show Option.map _ (afterD tSl y.2) = _; rw [hz]; rfl))
      (fun y z u hy hz hu => HS4.out u.2 (by rw [hK, Option.bind_some, hy]; show Option.map _ ((Option.map _ (afterD tSl y.2)).bind _) = _; rw [hz]; show Option.map _ (afterD tSl z.2) = _; rw [hu]; rfl))
    refine ⟨x, l, b, t, _, rfl, hx, ?_, hk, ?_⟩
    · have h5 : RdO W4 rd T ((o.bind drulP).map (·.2)) := HR4.out.imp fun M hM => by
        obtain ⟨K, y, hK, hy, hM⟩ := mapsnd hM
        unfold drulP at hy
        rw [Option.bind_eq_some_iff] at hy
        obtain ⟨y1, e1, hy⟩ := hy
        rw [Option.bind_eq_some_iff] at hy
        obtain ⟨y2, e2, hy⟩ := hy
        rw [Option.bind_eq_some_iff] at hy
        obtain ⟨y3, e3, hy⟩ := hy
        rw [Option.bind_eq_some_iff] at hy
        obtain ⟨y4, e4, hy⟩ := hy
        injection hy with hy
        subst hy
        rw [hK, Option.bind_some, e1]
        show Option.map _ ((Option.map _ ((Option.map _ (afterD tSl y1.2)).bind _)).bind _) = _
        rw [e2]
        show Option.map _ ((Option.map _ (afterD tSl y2.2)).bind _) = _
        rw [e3]
        show Option.map _ (afterD tGt y3.2) = _
        rw [e4]
        exact congrArg some hM
      obtain ⟨k, k1, k2, k3⟩ := h5
      exact ⟨k, k1, (((Blk.far k2 (p := ⟨w.heap.size, 0, none⟩) (by show rd ≠ w.heap.size; omega) _).far (p := ⟨w.heap.size, 1, none⟩) (by show rd ≠ w.heap.size; omega) _).far (p := ⟨w.heap.size, 2, none⟩) (by show rd ≠ w.heap.size; omega) _).far (p := ⟨w.heap.size, 3, none⟩) (by show rd ≠ w.heap.size; omega) _, k3⟩
    · exact turn_new (turn_new (turn_new (turn_new HG4.out ⟨w.heap.size, 0, none⟩ (Nat.le_refl _) _) ⟨w.heap.size, 1, none⟩ (Nat.le_refl _) _) ⟨w.heap.size, 2, none⟩ (Nat.le_refl _) _) ⟨w.heap.size, 3, none⟩ (Nat.le_refl _) _)
  clear hc4 hr4 hs4 hg4 BR3 BR4 HS1 HS2 HS3 HS4 HR4 HG1 HG2 HG3 HG4 HG0
  cases b1 <;> cases b2 <;> cases b3 <;> cases b4
  all_goals
    go_wp2_with fail
    exact bodyPost_ret (by simp [results, Tryd.results63, go_sem, p0, p1, p2, p3]) rfl HFIN.out
end Go.Proofs.YtodnicaidmilkaaDoor
