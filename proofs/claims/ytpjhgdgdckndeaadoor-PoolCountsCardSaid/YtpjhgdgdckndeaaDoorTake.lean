/-
  Contract of package pool: Take.
-/
import Derived.Test.YtpjhgdgdckndeaaDoorClonep
import Derived.Test.YtpjhgdgdckndeaaDoorValid
namespace Go.Proofs.YtpjhgdgdckndeaaDoor
open Go.RowKit
set_option maxRecDepth 100000
set_option linter.unusedVariables false

def zSp : Value := .agg #[.int .i64 0, .slice none 0 0, .slice none 0 0]
/-- The error of Take. -/
noncomputable def takeE (s : Int) (nw : Nat) (wd : Nat → Int) (n : Nat) (F : Nat → Fr) (o b : Int) : Int :=
  if (validB s nw wd n F && okO o && okB b) = false then 1 else if anyB F o (b * 4294967296 + o) n = true then 5 else if cntP (owB F (-1)) n = 0 then 4 else 0
/-- What Take answers. -/
def TakeOut (s : Int) (nw : Nat) (wd : Nat → Int) (n : Nat) (F : Nat → Fr) (o b : Int) (w : World) (e : Ending) (w' : World) : Prop :=
  (∃ x : Int, takeE s nw wd n F o b = x ∧ x ≠ 0 ∧ e = .returned (.tuple #[zSp, .int .i64 0, .int .i64 x]) ∧ Below w.heap.size w w') ∨
  (takeE s nw wd n F o b = 0 ∧ ∃ (f : Nat) (A1 : Option Addr) (c1 g c2 : Nat), Least F n f ∧ e = .returned (.tuple #[.agg #[.int .i64 s, .slice A1 nw c1, .slice (some ⟨g, 0, none⟩) n c2], .int .i64 f, .int .i64 0]) ∧
    Own w' w.heap.size A1 nw c1 wd ∧ OwnT w' w.heap.size (some ⟨g, 0, none⟩) n c2 (lift F f o (b * 4294967296 + o)) ∧ Below w.heap.size w w')

theorem take_bad {s : Int} {nw : Nat} {wd : Nat → Int} {n : Nat} {F : Nat → Fr} {o b : Int} {w w' : World} (h : (validB s nw wd n F && okO o && okB b) = false) (hb : Below w.heap.size w w') :
    TakeOut s nw wd n F o b w (.returned (.tuple #[zSp, .int .i64 0, .int .i64 1])) w' :=
  .inl ⟨1, by unfold takeE; rw [if_pos h], by decide, rfl, hb⟩
theorem take_other {s : Int} {nw : Nat} {wd : Nat → Int} {n : Nat} {F : Nat → Fr} {o b : Int} {w w' : World} (h : (validB s nw wd n F && okO o && okB b) = true) (h2 : anyB F o (b * 4294967296 + o) n = true) (hb : Below w.heap.size w w') :
    TakeOut s nw wd n F o b w (.returned (.tuple #[zSp, .int .i64 0, .int .i64 5])) w' :=
  .inl ⟨5, by unfold takeE; rw [if_neg (by rw [h]; decide), if_pos h2], by decide, rfl, hb⟩
theorem take_full {s : Int} {nw : Nat} {wd : Nat → Int} {n : Nat} {F : Nat → Fr} {o b : Int} {w w' : World} (h : (validB s nw wd n F && okO o && okB b) = true) (h2 : anyB F o (b * 4294967296 + o) n = false) (h3 : cntP (owB F (-1)) n = 0) (hb : Below w.heap.size w w') :
    TakeOut s nw wd n F o b w (.returned (.tuple #[zSp, .int .i64 0, .int .i64 4])) w' :=
  .inl ⟨4, by unfold takeE; rw [if_neg (by rw [h]; decide), if_neg (by rw [h2]; decide), if_pos h3], by decide, rfl, hb⟩

theorem take_ok {s : Int} {nw : Nat} {wd : Nat → Int} {n : Nat} {F : Nat → Fr} {o b : Int} (h : (validB s nw wd n F && okO o && okB b) = true) (h2 : anyB F o (b * 4294967296 + o) n = false) (h3 : cntP (owB F (-1)) n ≠ 0) :
    takeE s nw wd n F o b = 0 := by unfold takeE; rw [if_neg (by rw [h]; decide), if_neg (by rw [h2]; decide), if_neg h3]
/-- Words and frames never share a block. -/
theorem own_setT {w : World} {base base' nw c n c2 g i j k : Nat} {A : Option Addr} {wd : Nat → Int} {F : Nat → Fr} (h : Own w base A nw c wd) (hT : OwnT w base' (some ⟨g, 0, none⟩) n c2 F) (u v x : Value) :
    Own (((w.setCell ⟨g, i, none⟩ u).setCell ⟨g, j, none⟩ v).setCell ⟨g, k, none⟩ x) base A nw c wd := by
  obtain ⟨h1, h2, ⟨rfl, h3⟩ | ⟨y, cur, rfl, hb, hy, hs⟩⟩ := h
  · exact ⟨h1, h2, .inl ⟨rfl, h3⟩⟩
  · have hne : y ≠ g := by
      obtain ⟨_, _, ⟨h4, _⟩ | ⟨g', cur', hA, _, hg, _⟩⟩ := hT
      · cases h4
      · injection hA with hA
        injection hA with hA
        subst hA
        intro e
        subst e
        rw [hy] at hg
        injection hg with hg
        injection hg with _ hg _
        revert hg
        decide
    exact Own.apart3 ⟨h1, h2, .inr ⟨y, cur, rfl, hb, hy, hs⟩⟩ hne u v x
theorem setP_empty {p : Nat → Bool} {n : Nat} (h : cntP p n = 0) : setP p n = 0 := setP_none (fun j hj => by
  cases e : p j
  · rfl
  · have h1 : cntP p (j + 1) ≤ cntP p n := cntP_mono p (by omega)
    simp only [cntP, e, if_true] at h1
    omega)
theorem least_of {F : Nat → Fr} {n : Nat} (hn : n ≤ 64) (h : cntP (owB F (-1)) n ≠ 0) : ∃ f, Least F n f ∧ Lib.ctz 64 (setP (owB F (-1)) n) = f ∧ setP (owB F (-1)) n ≠ 0 := by
  have h0 : setP (owB F (-1)) n ≠ 0 := fun e => h (cntP_none (setP_zero e))
  have e0 : setP (fromP (owB F (-1)) 0) n = setP (owB F (-1)) n := setP_congr (fun j _ => by simp [fromP])
  obtain ⟨i, h1, h2, h3, h4⟩ := lowest (owB F (-1)) (t := 0) (n := n) (by rw [e0]; exact h0)
  obtain ⟨y, e1, e2⟩ := setP_split (owB F (-1)) h1 h3 h4 h2
  refine ⟨i, ⟨h2, of_decide_eq_true h3, fun j hj => of_decide_eq_false (h4 j (by omega) hj)⟩, ?_, h0⟩
  rw [← e0, e1]
  exact ctz_pow i y (by omega)

theorem take_bounds {s : Int} {nw : Nat} {wd : Nat → Int} {n : Nat} {F : Nat → Fr} (h : ValidP s nw wd n F) : 0 < n ∧ n ≤ 64 ∧ 0 < nw ∧ nw ≤ 16384 := by
  have h1 := shB_yes h.1
  have h2 := nfB_yes h.2.1
  have h3 := h.2.2.1
  have h4 : nw ≤ 16384 := by rw [h3]; exact prod_le (by omega) (by omega)
  have h5 : 0 < nw := by rw [h3]; exact Nat.mul_pos (by omega) (Nat.pow_pos (by decide))
  exact ⟨by omega, by omega, h5, h4⟩

set_option maxHeartbeats 4000000 in
theorem take_any (s : Int) (A A' : Option Addr) (nw c n c' : Nat) (wd : Nat → Int) (F : Nat → Fr) (o b : Int) (w : World) (hA : Arr w w.heap.size A nw c wd) (hT : Tab w w.heap.size A' n c' F) (hD : Db w) :
    Calls Tryd.prog 18 #[.agg #[.int .i64 s, .slice A nw c, .slice A' n c'], .int .i64 o, .int .i64 b] w (TakeOut s nw wd n F o b w) := by
  obtain ⟨U, hU⟩ : ∃ U, U = (w.alloc (.cells #[.int .i64 s, .slice A nw c, .slice A' n c'] 26)).alloc (.cells #[.int .i64 0, .slice none 0 0, .slice none 0 0] 26) := ⟨_, rfl⟩
  have BX := Lib.hid (show Blk U w.heap.size 26 #[.int .i64 s, .slice A nw c, .slice A' n c'] by rw [hU]; exact (Blk.new _ _ _).alloc _)
  have BR := Lib.hid (show Blk U (w.heap.size + 1) 26 #[.int .i64 0, .slice none 0 0, .slice none 0 0] by rw [hU]; exact Blk.newAt _ _ _ _ (by simp))
  have hbu : Below w.heap.size w U := by rw [hU]; exact ((Below.refl _ _).alloc (Nat.le_refl _) _).alloc (by simp) _
  have HBU := Lib.hid hbu
  have HU := Lib.hid hU
  have HA := Lib.hid (hA.next hbu)
  have HT := Lib.hid (hT.next hbu)
  have HD := Lib.hid (hD.next hbu)
  clear hA hT hD hU hbu
  cases hv : validB s nw wd n F with
  | false =>
    have HE := Lib.hid (show (validB s nw wd n F && okO o && okB b) = false by rw [hv]; rfl)
    have HV := Lib.hid hv
    clear hv
    go_enter Tryd.func18, Tryd.ntmps18
    go_wp2_with (go_at_call 31; rw [← HU.out]; refine (valid_any s A A' nw c n c' wd F U HA.out HT.out).mono ?_; rintro e w1 ⟨rfl, hb1⟩; rw [HV.out]; have R := BR.out.next hb1; have r0 := R.cell 0; have r1 := R.cell 1; have r2 := R.cell 2; have f0 := R.frozen 0; have f1 := R.frozen 1; have f2 := R.frozen 2; have rz := R.lt; simp at r0 r1 r2)
    refine bodyPost_ret (v := .tuple #[.agg #[.int .i64 0, .slice none 0 0, .slice none 0 0], .int .i64 0, .int .i64 1]) (by simp [results, Tryd.results18, go_sem, r0, r1, r2]) rfl (take_bad HE.out (below_put3 (below_next HBU.out (Nat.le_refl _) hb1) (by omega) _ _ _))
  | true =>
    have hvp := validB_of hv
    have HV := Lib.hid hv
    cases ho : okO o with
    | false =>
      have HE := Lib.hid (show (validB s nw wd n F && okO o && okB b) = false by rw [ho]; simp)
      have HO := Lib.hid ho
      clear ho hv hvp
      go_enter Tryd.func18, Tryd.ntmps18
      go_wp2_with (first
        | (go_at_call 31; rw [← HU.out]; refine (valid_any s A A' nw c n c' wd F U HA.out HT.out).mono ?_; rintro e w1 ⟨rfl, hb1⟩; rw [HV.out]; have R := BR.out.next hb1; have r0 := R.cell 0; have r1 := R.cell 1; have r2 := R.cell 2; have f0 := R.frozen 0; have f1 := R.frozen 1; have f2 := R.frozen 2; have rz := R.lt; simp at r0 r1 r2)
        | (go_at_call 32; refine (isOwner_any o _).mono ?_; rintro e w' ⟨rfl, rfl⟩; rw [HO.out]))
      refine bodyPost_ret (v := .tuple #[.agg #[.int .i64 0, .slice none 0 0, .slice none 0 0], .int .i64 0, .int .i64 1]) (by simp [results, Tryd.results18, go_sem, r0, r1, r2]) rfl (take_bad HE.out (below_put3 (below_next HBU.out (Nat.le_refl _) hb1) (by omega) _ _ _))
    | true =>
      have HO := Lib.hid ho
      cases hbt : okB b with
      | false =>
        have HE := Lib.hid (show (validB s nw wd n F && okO o && okB b) = false by rw [hbt]; simp)
        have HB := Lib.hid hbt
        clear ho hv hvp hbt
        go_enter Tryd.func18, Tryd.ntmps18
        go_wp2_with (first
          | (go_at_call 31; rw [← HU.out]; refine (valid_any s A A' nw c n c' wd F U HA.out HT.out).mono ?_; rintro e w1 ⟨rfl, hb1⟩; rw [HV.out]; have R := BR.out.next hb1; have r0 := R.cell 0; have r1 := R.cell 1; have r2 := R.cell 2; have f0 := R.frozen 0; have f1 := R.frozen 1; have f2 := R.frozen 2; have rz := R.lt; simp at r0 r1 r2)
          | (go_at_call 32; refine (isOwner_any o _).mono ?_; rintro e w' ⟨rfl, rfl⟩; rw [HO.out])
          | (go_at_call 33; refine (isBelt_any b _).mono ?_; rintro e w' ⟨rfl, rfl⟩; rw [HB.out]))
        refine bodyPost_ret (v := .tuple #[.agg #[.int .i64 0, .slice none 0 0, .slice none 0 0], .int .i64 0, .int .i64 1]) (by simp [results, Tryd.results18, go_sem, r0, r1, r2]) rfl (take_bad HE.out (below_put3 (below_next HBU.out (Nat.le_refl _) hb1) (by omega) _ _ _))
      | true =>
        have HE := Lib.hid (show (validB s nw wd n F && okO o && okB b) = true by rw [hv, ho, hbt]; rfl)
        have HB := Lib.hid hbt
        have ob := of_decide_eq_true ho
        have bb := of_decide_eq_true hbt
        have hsp := take_bounds hvp
        have HVP := Lib.hid hvp
        obtain ⟨n0, n64, w0, w20⟩ := hsp
        have sm : 0 ≤ b * 4294967296 ∧ b * 4294967296 ≤ 12884901888 := by omega
        clear ho hv hvp hbt
        cases hoth : anyB F o (b * 4294967296 + o) n with
        | true =>
          have HN := Lib.hid hoth
          clear hoth
          go_enter Tryd.func18, Tryd.ntmps18
          go_wp2_with (first
            | (go_at_call 31; rw [← HU.out]; refine (valid_any s A A' nw c n c' wd F U HA.out HT.out).mono ?_; rintro e w1 ⟨rfl, hb1⟩; rw [HV.out]; have X := BX.out.next hb1; have x0 := X.cell 0; have x1 := X.cell 1; have x2 := X.cell 2; have xz := X.lt; simp at x0 x1 x2)
            | (go_at_call 32; refine (isOwner_any o _).mono ?_; rintro e w' ⟨rfl, rfl⟩; rw [HO.out])
            | (go_at_call 33; refine (isBelt_any b _).mono ?_; rintro e w' ⟨rfl, rfl⟩; rw [HB.out])
            | (go_at_call 34; refine (hasOther_any s _ A' n c' F o (b * 4294967296 + o) w1 (HT.out.next hb1) (by omega)).mono ?_; rintro e w2 ⟨rfl, hb2⟩; rw [HN.out]; have R := BR.out.next (below_next hb1 (Nat.le_refl _) hb2); have r0 := R.cell 0; have r1 := R.cell 1; have r2 := R.cell 2; have f0 := R.frozen 0; have f1 := R.frozen 1; have f2 := R.frozen 2; have rz := R.lt; simp at r0 r1 r2))
          refine bodyPost_ret (v := .tuple #[.agg #[.int .i64 0, .slice none 0 0, .slice none 0 0], .int .i64 0, .int .i64 5]) (by simp [results, Tryd.results18, go_sem, r0, r1, r2]) rfl (take_other HE.out HN.out (below_put3 (below_next (below_next HBU.out (Nat.le_refl _) hb1) (Nat.le_refl _) hb2) (by omega) _ _ _))
        | false =>
          have HN := Lib.hid hoth
          have hsm := setP_small (owB F (-1)) n64
          clear hoth
          by_cases hc0 : cntP (owB F (-1)) n = 0
          · have HC := Lib.hid hc0
            have HS := Lib.hid (setP_empty hc0)
            clear hc0
            go_enter Tryd.func18, Tryd.ntmps18
            go_wp2_with (first
              | (go_at_call 31; rw [← HU.out]; refine (valid_any s A A' nw c n c' wd F U HA.out HT.out).mono ?_; rintro e w1 ⟨rfl, hb1⟩; rw [HV.out]; have X := BX.out.next hb1; have x0 := X.cell 0; have x1 := X.cell 1; have x2 := X.cell 2; have xz := X.lt; simp at x0 x1 x2)
              | (go_at_call 32; refine (isOwner_any o _).mono ?_; rintro e w' ⟨rfl, rfl⟩; rw [HO.out])
              | (go_at_call 33; refine (isBelt_any b _).mono ?_; rintro e w' ⟨rfl, rfl⟩; rw [HB.out])
              | (go_at_call 34; refine (hasOther_any s _ A' n c' F o (b * 4294967296 + o) w1 (HT.out.next hb1) (by omega)).mono ?_; rintro e w2 ⟨rfl, hb2⟩; rw [HN.out]; have hb12 := below_next hb1 (Nat.le_refl _) hb2; have Y := BX.out.next hb12; have y0 := Y.cell 0; have y1 := Y.cell 1; have y2 := Y.cell 2; have yz := Y.lt; simp at y0 y1 y2)
              | (go_at_call 28; refine (framesOf_any s _ A' n c' F (-1) w2 (HT.out.next hb12) n64).mono ?_; rintro e w3 ⟨rfl, hb3⟩; rw [HS.out]; have hb13 := below_next hb12 (Nat.le_refl _) hb3; have R := BR.out.next hb13; have r0 := R.cell 0; have r1 := R.cell 1; have r2 := R.cell 2; have f0 := R.frozen 0; have f1 := R.frozen 1; have f2 := R.frozen 2; have rz := R.lt; simp at r0 r1 r2))
            refine bodyPost_ret (v := .tuple #[.agg #[.int .i64 0, .slice none 0 0, .slice none 0 0], .int .i64 0, .int .i64 4]) (by simp [results, Tryd.results18, go_sem, r0, r1, r2]) rfl (take_full HE.out HN.out HC.out (below_put3 (below_next HBU.out (Nat.le_refl _) hb13) (by omega) _ _ _))
          · obtain ⟨f, hl, hcz, hs0⟩ := least_of n64 hc0
            obtain ⟨x, hx⟩ : ∃ x, x = setP (owB F (-1)) n := ⟨_, rfl⟩
            have HX := Lib.hid hx
            have hne : ((x : Int) == 0) = false := by rw [hx]; simpa using hs0
            have HS0 := Lib.hid (show x ≠ 0 by rw [hx]; exact hs0)
            have HCZ := Lib.hid (show Lib.ctz 64 x = f by rw [hx]; exact hcz)
            have HL := Lib.hid hl
            have HC0 := Lib.hid hc0
            have hfn := hl.1
            have hx64 : x < 18446744073709551616 := by rw [hx]; exact hsm
            have hlt2 : 0 ≤ (f : Int) ∧ (f : Int) < n := by omega
            clear hx hcz hs0 hl hc0 hsm
            go_enter Tryd.func18, Tryd.ntmps18
            go_upto_region 11 with (first
              | (go_at_call 31; rw [← HU.out]; refine (valid_any s A A' nw c n c' wd F U HA.out HT.out).mono ?_; rintro e w1 ⟨rfl, hb1⟩; rw [HV.out]; have X := BX.out.next hb1; have x0 := X.cell 0; have x1 := X.cell 1; have x2 := X.cell 2; have xz := X.lt; simp at x0 x1 x2)
              | (go_at_call 32; refine (isOwner_any o _).mono ?_; rintro e w' ⟨rfl, rfl⟩; rw [HO.out])
              | (go_at_call 33; refine (isBelt_any b _).mono ?_; rintro e w' ⟨rfl, rfl⟩; rw [HB.out])
              | (go_at_call 34; refine (hasOther_any s _ A' n c' F o (b * 4294967296 + o) w1 (HT.out.next hb1) (by omega)).mono ?_; rintro e w2 ⟨rfl, hb2⟩; rw [HN.out]; have hb12 := below_next hb1 (Nat.le_refl _) hb2; have Y := BX.out.next hb12; have y0 := Y.cell 0; have y1 := Y.cell 1; have y2 := Y.cell 2; have yz := Y.lt; simp at y0 y1 y2)
              | (go_at_call 28; refine (framesOf_any s _ A' n c' F (-1) w2 (HT.out.next hb12) n64).mono ?_; rintro e w3 ⟨rfl, hb3⟩; rw [← HX.out]; have hb13 := below_next hb12 (Nat.le_refl _) hb3; have Z := BX.out.next hb13; have s0 := Z.cell 0; have s1 := Z.cell 1; have s2 := Z.cell 2; have sz := Z.lt; simp at s0 s1 s2)
              | (go_at_call 35; refine (tz_any x hx64 HS0.out _ (HD.out.next hb13)).mono ?_; rintro e w' ⟨rfl, rfl⟩; rw [HCZ.out])
              | (go_at_call 36; refine (clonep_any s A A' nw c n c' wd F w3 (HA.out.next hb13) (HT.out.next hb13) (by omega) n0 (by omega) w0).mono ?_; rintro e w4 ⟨A1, c1, g, c2, rfl, hoA, hoT, hb4⟩))
            obtain ⟨W, hW⟩ : ∃ W, W = w4.alloc (.cells #[.int .i64 s, .slice A1 nw c1, .slice (some ⟨g, 0, none⟩) n c2] 26) := ⟨_, rfl⟩
            have hbw : Below w4.heap.size w4 W := by rw [hW]; exact (Below.refl _ _).alloc (Nat.le_refl _) _
            have BO : Blk W w4.heap.size 26 #[.int .i64 s, .slice A1 nw c1, .slice (some ⟨g, 0, none⟩) n c2] := by rw [hW]; exact Blk.new _ _ _
            obtain ⟨g1, g2, _⟩ := hoT.spotAt f hfn frFree
            obtain ⟨_, g3, k0, k1, k2, f0, f1, f2, hnew, _⟩ := (hoT.below hbw).spotAt f hfn ⟨o, b * 4294967296 + o, -1⟩
            have hb14 := below_next hb13 (Nat.le_refl _) hb4
            have hb1W := below_next hb14 (Nat.le_refl _) hbw
            have R := BR.out.next hb1W
            have z1 : w.heap.size + 1 < w3.heap.size := (BR.out.next hb13).lt
            obtain ⟨V, hV⟩ : ∃ V, V = ((W.setCell ⟨g, f * 3, none⟩ (.int .i64 o)).setCell ⟨g, f * 3 + 1, none⟩ (.int .i64 (b * 4294967296 + o))).setCell ⟨g, f * 3 + 2, none⟩ (.int .i64 (-1)) := ⟨_, rfl⟩
            have p2 := BO.cell 2
            simp at p2
            have BO2 : Blk V w4.heap.size 26 #[.int .i64 s, .slice A1 nw c1, .slice (some ⟨g, 0, none⟩) n c2] := by rw [hV]; exact BO.far3 (by omega) _ _ _
            have R2 : Blk V (w.heap.size + 1) 26 #[.int .i64 0, .slice none 0 0, .slice none 0 0] := by rw [hV]; exact R.far3 (by omega) _ _ _
            have HOV : Hid (Own V w3.heap.size A1 nw c1 wd) := by rw [hV]; exact Lib.hid (own_setT (hoA.below hbw) (hoT.below hbw) _ _ _)
            have HNEW : Hid (OwnT V w3.heap.size (some ⟨g, 0, none⟩) n c2 (lift F f o (b * 4294967296 + o))) := by rw [hV]; exact Lib.hid hnew
            have zw3 : w.heap.size ≤ w3.heap.size := by omega
            have HBV : Hid (Below w.heap.size w V) := by rw [hV]; exact Lib.hid (below_set3 (below_next HBU.out (Nat.le_refl _) hb1W) (by have := HBU.out.size; have := hb13.size; omega) _ _ _)
            have HW := Lib.hid hW
            have HV := Lib.hid hV
            have q0 := BO2.cell 0
            have q1 := BO2.cell 1
            have q2 := BO2.cell 2
            have r0 := R2.cell 0
            have r1 := R2.cell 1
            have r2 := R2.cell 2
            have rf0 := R2.frozen 0
            have rf1 := R2.frozen 1
            have rf2 := R2.frozen 2
            have z2 := BO.lt
            have z3 := BO2.lt
            have z4 := R2.lt
            simp at q0 q1 q2 r0 r1 r2
            clear hW hV hnew hoT hoA hbw
            rw [← HW.out]
            go_upto_region 12 with fail
            rw [← HV.out]
            go_wp2
            refine bodyPost_ret (v := .tuple #[.agg #[.int .i64 s, .slice A1 nw c1, .slice (some ⟨g, 0, none⟩) n c2], .int .i64 f, .int .i64 0]) (by simp [results, Tryd.results18, go_sem, r0, r1, r2]) rfl (.inr ⟨take_ok HE.out HN.out HC0.out, f, A1, c1, g, c2, HL.out, rfl, ?_, ?_, ?_⟩)
            · exact (HOV.out.put3 z1 _ _ _).lower zw3
            · exact (HNEW.out.put3 z1 _ _ _).lower zw3
            · exact below_put3 HBV.out (by omega) _ _ _
end Go.Proofs.YtpjhgdgdckndeaaDoor
