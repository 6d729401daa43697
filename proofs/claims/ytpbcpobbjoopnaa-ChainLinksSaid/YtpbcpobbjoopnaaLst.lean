/-
  Contracts of List of package chain and of the reference.
-/
import Derived.Test.YtpbcpobbjoopnaaFrom
import Derived.Test.YtpbcpobbjoopnaaValid
import Derived.Test.YtpbcpobbjoopnaaRVal
namespace Go.Proofs.Ytpbcpobbjoopnaa
open Go.RowKit
set_option maxRecDepth 100000
set_option linter.unusedVariables false

/-- A slice of the numbers of a list, and an error. -/
def GivesLst (l : List Nat) (x : Int) (w : World) (e : Ending) (w' : World) : Prop :=
  ∃ (A : Option Addr) (c : Nat), e = .returned (.tuple #[.slice A l.length c, .int .i64 x]) ∧ Nums w' w'.heap.size A l.length c (numF l) ∧ Below w.heap.size w w'
theorem gives_none {w w' : World} {x : Int} (h : Below w.heap.size w w') : GivesLst [] x w (.returned (.tuple #[.slice none 0 0, .int .i64 x])) w' := ⟨none, 0, rfl, Nums.nil _ _ _, h⟩
section
variable {s : Int} {nw : Nat} {wd : Nat → Int} {n : Nat} {F : Nat → Fr} {first : Int}
theorem lst_bad (h : validB s nw wd n F = false) : lstE s nw wd n F first = 1 ∧ lstL s nw wd n F first = [] := by
  have h1 : lstE s nw wd n F first = 1 := by unfold lstE; rw [if_pos h]
  exact ⟨h1, by unfold lstL; rw [h1]; rfl⟩
theorem lst_out (h : validB s nw wd n F = true) (h2 : inB n first = false) : lstE s nw wd n F first = 2 ∧ lstL s nw wd n F first = [] := by
  have h1 : lstE s nw wd n F first = 2 := by unfold lstE; rw [if_neg (by simp [h]), if_pos h2]
  exact ⟨h1, by unfold lstL; rw [h1]; rfl⟩
theorem lst_free (h : validB s nw wd n F = true) {f : Nat} (h2 : f < n) (h3 : (F f).ow = -1) : lstE s nw wd n F f = 5 ∧ lstL s nw wd n F f = [] := by
  have h1 : lstE s nw wd n F f = 5 := by unfold lstE; rw [if_neg (by simp [h]), if_neg (by simp [inB]; omega), Int.toNat_natCast, if_pos h3]
  exact ⟨h1, by unfold lstL; rw [h1]; rfl⟩
theorem lst_ok (h : validB s nw wd n F = true) {f : Nat} (h2 : f < n) (h3 : (F f).ow ≠ -1) : lstE s nw wd n F f = 0 ∧ lstL s nw wd n F f = chL F n f := by
  have h1 : lstE s nw wd n F f = 0 := by unfold lstE; rw [if_neg (by simp [h]), if_neg (by simp [inB]; omega), Int.toNat_natCast, if_neg h3]
  exact ⟨h1, by unfold lstL; rw [h1, if_pos rfl, Int.toNat_natCast]⟩
theorem inB_nat {n : Nat} {f : Int} (h : inB n f = true) : ∃ j : Nat, f = j ∧ j < n := by
  obtain ⟨a, b⟩ := inB_yes h
  exact ⟨f.toNat, by omega, by omega⟩
end

set_option maxHeartbeats 2000000 in
theorem list5_any (s : Int) (A A' : Option Addr) (nw c n c' : Nat) (wd : Nat → Int) (F : Nat → Fr) (first : Int) (w : World) (hA : Arr w w.heap.size A nw c wd) (hT : Tab w w.heap.size A' n c' F) :
    Calls Try.prog 17 #[.agg #[.int .i64 s, .slice A nw c, .slice A' n c'], .int .i64 first] w (GivesLst (lstL s nw wd n F first) (lstE s nw wd n F first) w) := by
  obtain ⟨U, hU⟩ : ∃ U, U = w.alloc (.cells #[.int .i64 s, .slice A nw c, .slice A' n c'] 25) := ⟨_, rfl⟩
  have BX := Lib.hid (show Blk U w.heap.size 25 #[.int .i64 s, .slice A nw c, .slice A' n c'] by rw [hU]; exact Blk.new _ _ _)
  have hbu : Below w.heap.size w U := by rw [hU]; exact (Below.refl _ _).alloc (Nat.le_refl _) _
  have HBU := Lib.hid hbu
  have HU := Lib.hid hU
  have HA := Lib.hid (hA.next hbu)
  have HT := Lib.hid (hT.next hbu)
  clear hA hT hU hbu
  cases hv : validB s nw wd n F with
  | false =>
    obtain ⟨e1, e2⟩ := lst_bad (first := first) hv
    rw [e1, e2]
    have HV := Lib.hid hv
    clear hv e1 e2
    go_enter Try.func17, Try.ntmps17
    go_wp2_with (go_at_call 31; rw [← HU.out]; refine (valid_any s A A' nw c n c' wd F U HA.out HT.out).mono ?_; rintro e w1 ⟨rfl, hb1⟩; rw [HV.out]; have HB := Lib.hid (below_next HBU.out (Nat.le_refl _) hb1); clear hb1)
    go_ret2
    exact gives_none HB.out
  | true =>
    have hvp := validB_of hv
    have HV := Lib.hid hv
    cases hi : inB n first with
    | false =>
      obtain ⟨e1, e2⟩ := lst_out hv hi
      rw [e1, e2]
      have HI := Lib.hid hi
      clear hv e1 e2 hi hvp
      go_enter Try.func17, Try.ntmps17
      go_wp2_with (first
        | (go_at_call 31; rw [← HU.out]; refine (valid_any s A A' nw c n c' wd F U HA.out HT.out).mono ?_; rintro e w1 ⟨rfl, hb1⟩; rw [HV.out]; have X := BX.out.next hb1; have x0 := X.cell 0; have x1 := X.cell 1; have x2 := X.cell 2; have xz := X.lt; simp at x0 x1 x2; have HB := Lib.hid (below_next HBU.out (Nat.le_refl _) hb1); clear hb1 X)
        | (go_at_call 32; refine (isFrame5_any s _ A' n c' first _).mono ?_; rintro e w2 ⟨rfl, hb2⟩; rw [HI.out]))
      go_ret2
      exact gives_none (below_next HB.out (Nat.le_refl _) hb2)
    | true =>
      have HI := Lib.hid hi
      obtain ⟨f, rfl, hf⟩ := inB_nat hi
      obtain ⟨_, n64⟩ := nfB_yes hvp.2.1
      have HFV := Lib.hid hvp.fv
      by_cases h0 : (F f).ow = -1
      · obtain ⟨e1, e2⟩ := lst_free hv hf h0
        rw [e1, e2]
        have HD := Lib.hid (show decide ((F f).ow = -1) = true from decide_eq_true h0)
        clear hv e1 e2 hi hvp h0
        go_enter Try.func17, Try.ntmps17
        go_wp2_with (first
          | (go_at_call 31; rw [← HU.out]; refine (valid_any s A A' nw c n c' wd F U HA.out HT.out).mono ?_; rintro e w1 ⟨rfl, hb1⟩; rw [HV.out]; have X := BX.out.next hb1; have x0 := X.cell 0; have x1 := X.cell 1; have x2 := X.cell 2; have xz := X.lt; simp at x0 x1 x2; have HB := Lib.hid (below_next HBU.out (Nat.le_refl _) hb1); have HX := Lib.hid X; have HT1 := Lib.hid (HT.out.next hb1); clear hb1 X)
          | (go_at_call 32; refine (isFrame5_any s _ A' n c' f _).mono ?_; rintro e w2 ⟨rfl, hb2⟩; rw [HI.out]; have Y := HX.out.next hb2; have y0 := Y.cell 0; have y1 := Y.cell 1; have y2 := Y.cell 2; have yz := Y.lt; simp at y0 y1 y2; have HB2 := Lib.hid (below_next HB.out (Nat.le_refl _) hb2); have HT2 := Lib.hid (HT1.out.next hb2); clear hb2 Y)
          | (go_at_call 36; refine (isFree5_any s _ A' n c' f F _ HT2.out hf).mono ?_; rintro e w3 ⟨rfl, hb3⟩; rw [HD.out]))
        go_ret2
        exact gives_none (below_next HB2.out (Nat.le_refl _) hb3)
      · obtain ⟨e1, e2⟩ := lst_ok hv hf h0
        rw [e1, e2]
        have HD := Lib.hid (show decide ((F f).ow = -1) = false from decide_eq_false h0)
        clear hv e1 e2 hi hvp h0
        go_enter Try.func17, Try.ntmps17
        go_wp2_with (first
          | (go_at_call 31; rw [← HU.out]; refine (valid_any s A A' nw c n c' wd F U HA.out HT.out).mono ?_; rintro e w1 ⟨rfl, hb1⟩; rw [HV.out]; have X := BX.out.next hb1; have x0 := X.cell 0; have x1 := X.cell 1; have x2 := X.cell 2; have xz := X.lt; simp at x0 x1 x2; have HB := Lib.hid (below_next HBU.out (Nat.le_refl _) hb1); have HX := Lib.hid X; have HT1 := Lib.hid (HT.out.next hb1); clear hb1 X)
          | (go_at_call 32; refine (isFrame5_any s _ A' n c' f _).mono ?_; rintro e w2 ⟨rfl, hb2⟩; rw [HI.out]; have Y := HX.out.next hb2; have y0 := Y.cell 0; have y1 := Y.cell 1; have y2 := Y.cell 2; have yz := Y.lt; simp at y0 y1 y2; have HB2 := Lib.hid (below_next HB.out (Nat.le_refl _) hb2); have HT2 := Lib.hid (HT1.out.next hb2); have HY := Lib.hid Y; clear hb2 Y)
          | (go_at_call 36; refine (isFree5_any s _ A' n c' f F _ HT2.out hf).mono ?_; rintro e w3 ⟨rfl, hb3⟩; rw [HD.out]; have Z := HY.out.next hb3; have z0 := Z.cell 0; have z1 := Z.cell 1; have z2 := Z.cell 2; have zz := Z.lt; simp at z0 z1 z2; have HB3 := Lib.hid (below_next HB2.out (Nat.le_refl _) hb3); have HT3 := Lib.hid (HT2.out.next hb3); clear hb3 Z)
          | (go_at_call 37; refine (framesFrom_any s _ A' n c' f F _ HT3.out (by omega) HFV.out hf).mono ?_; rintro e w4 ⟨A4, c4, rfl, hn4, hb4⟩))
        go_ret2
        exact ⟨A4, c4, rfl, hn4, below_next HB3.out (Nat.le_refl _) hb4⟩

set_option maxHeartbeats 2000000 in
theorem refList5_any (s : Int) (A A' : Option Addr) (nw c n c' : Nat) (wd : Nat → Int) (F : Nat → Fr) (first : Int) (w : World) (hA : Arr w w.heap.size A nw c wd) (hT : Tab w w.heap.size A' n c' F) :
    Calls Try.prog 18 #[.agg #[.int .i64 s, .slice A nw c, .slice A' n c'], .int .i64 first] w (GivesLst (lstL s nw wd n F first) (lstE s nw wd n F first) w) := by
  obtain ⟨U, hU⟩ : ∃ U, U = w.alloc (.cells #[.int .i64 s, .slice A nw c, .slice A' n c'] 25) := ⟨_, rfl⟩
  have BX := Lib.hid (show Blk U w.heap.size 25 #[.int .i64 s, .slice A nw c, .slice A' n c'] by rw [hU]; exact Blk.new _ _ _)
  have hbu : Below w.heap.size w U := by rw [hU]; exact (Below.refl _ _).alloc (Nat.le_refl _) _
  have HBU := Lib.hid hbu
  have HU := Lib.hid hU
  have HA := Lib.hid (hA.next hbu)
  have HT := Lib.hid (hT.next hbu)
  clear hA hT hU hbu
  cases hv : validB s nw wd n F with
  | false =>
    obtain ⟨e1, e2⟩ := lst_bad (first := first) hv
    rw [e1, e2]
    have HV := Lib.hid hv
    clear hv e1 e2
    go_enter Try.func18, Try.ntmps18
    go_wp2_with (go_at_call 28; rw [← HU.out]; refine (refValid_any s A A' nw c n c' wd F U HA.out HT.out).mono ?_; rintro e w1 ⟨rfl, hb1⟩; rw [HV.out]; have HB := Lib.hid (below_next HBU.out (Nat.le_refl _) hb1); clear hb1)
    go_ret2
    exact gives_none HB.out
  | true =>
    have hvp := validB_of hv
    have HV := Lib.hid hv
    cases hi : inB n first with
    | false =>
      obtain ⟨e1, e2⟩ := lst_out hv hi
      rw [e1, e2]
      have HI := Lib.hid hi
      clear hv e1 e2 hi hvp
      go_enter Try.func18, Try.ntmps18
      go_wp2_with (first
        | (go_at_call 28; rw [← HU.out]; refine (refValid_any s A A' nw c n c' wd F U HA.out HT.out).mono ?_; rintro e w1 ⟨rfl, hb1⟩; rw [HV.out]; have X := BX.out.next hb1; have x0 := X.cell 0; have x1 := X.cell 1; have x2 := X.cell 2; have xz := X.lt; simp at x0 x1 x2; have HB := Lib.hid (below_next HBU.out (Nat.le_refl _) hb1); clear hb1 X)
        | (go_at_call 35; refine (outside_any s _ A' n c' first _).mono ?_; rintro e w2 ⟨rfl, hb2⟩; rw [HI.out]))
      go_ret2
      exact gives_none (below_next HB.out (Nat.le_refl _) hb2)
    | true =>
      have HI := Lib.hid hi
      obtain ⟨f, rfl, hf⟩ := inB_nat hi
      obtain ⟨_, n64⟩ := nfB_yes hvp.2.1
      have HFV := Lib.hid hvp.fv
      obtain ⟨b, o, rfl, hbb⟩ := HT.out.base_ (by omega)
      obtain ⟨x, hx⟩ : ∃ x, x = (F f).ow := ⟨_, rfl⟩
      have HXF := Lib.hid hx
      have hf2 : 0 ≤ (f : Int) ∧ (f : Int) < n := by omega
      by_cases h0 : x = -1
      · obtain ⟨e1, e2⟩ := lst_free hv hf (hx ▸ h0)
        rw [e1, e2]
        have hq : (x == -1) = true := by simpa using h0
        clear hv e1 e2 hi hvp h0 hx
        go_enter Try.func18, Try.ntmps18
        go_wp2_with (first
          | (go_at_call 28; rw [← HU.out]; refine (refValid_any s A (some ⟨b, o, none⟩) nw c n c' wd F U HA.out HT.out).mono ?_; rintro e w1 ⟨rfl, hb1⟩; rw [HV.out]; have X := BX.out.next hb1; have x0 := X.cell 0; have x1 := X.cell 1; have x2 := X.cell 2; have xz := X.lt; simp at x0 x1 x2; have HB := Lib.hid (below_next HBU.out (Nat.le_refl _) hb1); have HX := Lib.hid X; have HT1 := Lib.hid (HT.out.next hb1); clear hb1 X)
          | (go_at_call 35; refine (outside_any s _ (some ⟨b, o, none⟩) n c' f _).mono ?_; rintro e w2 ⟨rfl, hb2⟩; rw [HI.out]; have Y := HX.out.next hb2; have y0 := Y.cell 0; have y1 := Y.cell 1; have y2 := Y.cell 2; have yz := Y.lt; simp at y0 y1 y2; have HB2 := Lib.hid (below_next HB.out (Nat.le_refl _) hb2); obtain ⟨_, d0, _, _⟩ := (HT1.out.next hb2).cells f hf; rw [← HXF.out] at d0; clear hb2 Y))
        go_ret2
        exact gives_none HB2.out
      · obtain ⟨e1, e2⟩ := lst_ok hv hf (hx ▸ h0)
        rw [e1, e2]
        have hq : (x == -1) = false := by simpa using h0
        clear hv e1 e2 hi hvp h0 hx
        go_enter Try.func18, Try.ntmps18
        go_wp2_with (first
          | (go_at_call 28; rw [← HU.out]; refine (refValid_any s A (some ⟨b, o, none⟩) nw c n c' wd F U HA.out HT.out).mono ?_; rintro e w1 ⟨rfl, hb1⟩; rw [HV.out]; have X := BX.out.next hb1; have x0 := X.cell 0; have x1 := X.cell 1; have x2 := X.cell 2; have xz := X.lt; simp at x0 x1 x2; have HB := Lib.hid (below_next HBU.out (Nat.le_refl _) hb1); have HX := Lib.hid X; have HT1 := Lib.hid (HT.out.next hb1); clear hb1 X)
          | (go_at_call 35; refine (outside_any s _ (some ⟨b, o, none⟩) n c' f _).mono ?_; rintro e w2 ⟨rfl, hb2⟩; rw [HI.out]; have Y := HX.out.next hb2; have y0 := Y.cell 0; have y1 := Y.cell 1; have y2 := Y.cell 2; have yz := Y.lt; simp at y0 y1 y2; have HB2 := Lib.hid (below_next HB.out (Nat.le_refl _) hb2); have HT2 := Lib.hid (HT1.out.next hb2); obtain ⟨_, d0, _, _⟩ := HT2.out.cells f hf; rw [← HXF.out] at d0; clear hb2 Y)
          | (go_at_call 38; refine (refChain_any s _ (some ⟨b, o, none⟩) n c' f F _ HT2.out (by omega) HFV.out hf).mono ?_; rintro e w4 ⟨A4, c4, rfl, hn4, hb4⟩))
        go_ret2
        exact ⟨A4, c4, rfl, hn4, below_next HB2.out (Nat.le_refl _) hb4⟩
end Go.Proofs.Ytpbcpobbjoopnaa
