/-
  Contracts of the reference of layer 8, for every raw space: Shape, Slots, get, set, Ref, SetRef, Data, SetData.
-/
import Derived.Test.YtfjdafnejhgijaaPlc
import Derived.Deep.CutBlock
import Derived.Deep.DeepCutAuto
namespace Go.Proofs.Ytfjdafnejhgijaa
open Go.RowKit
set_option maxRecDepth 100000
set_option linter.unusedVariables false

section
variable {s : Int} {nw : Nat} {wd : Nat → Int} {n : Nat} {F : Nat → Fr} {a i : Int} {t : Bool}
theorem shp_bad3 (h : validB s nw wd n F = false) : shpE s nw wd n F a = 1 ∧ shpR s nw wd n F a = 0 ∧ shpD s nw wd n F a = 0 ∧ sltL s nw wd n F a = [] ∧ plcE s nw wd n F a i t = 1 ∧ getV s nw wd n F a i t = 0 := by
  have h1 := shp_bad (a := a) h
  have h2 : shpR s nw wd n F a = 0 := by unfold shpR; rw [h1]; rfl
  have h3 := (plc_bad (s := s) (nw := nw) (wd := wd) (n := n) (F := F) (a := a) (i := i) (t := t) (by rw [h1]; decide)).1
  rw [h1] at h3
  exact ⟨h1, h2, by unfold shpD; rw [h1]; rfl, by unfold sltL; rw [h2]; rfl, h3, by unfold getV; rw [h3]; rfl⟩
end
/-- What set does, and what the calls that set a field do. -/
def SetOut (s : Int) (nw n : Nat) (wd : Nat → Int) (F : Nat → Fr) (a i : Int) (t : Bool) (v : Int) (w : World) (e : Ending) (w' : World) : Prop :=
  (∃ y : Int, plcE s nw wd n F a i t = y ∧ y ≠ 0 ∧ e = .returned (.tuple #[.agg #[.int .i64 0, .slice none 0 0, .slice none 0 0], .int .i64 y]) ∧ Below w.heap.size w w') ∨
  (plcE s nw wd n F a i t = 0 ∧ ∃ (A : Option Addr) (c g c' : Nat), e = .returned (.tuple #[.agg #[.int .i64 s, .slice A nw c, .slice (some ⟨g, 0, none⟩) n c'], .int .i64 0]) ∧
    Own w' w.heap.size A nw c (setW s nw wd n F a i t v) ∧ OwnT w' w.heap.size (some ⟨g, 0, none⟩) n c' F ∧ Below w.heap.size w w')

theorem refShape_any (s : Int) (A A' : Option Addr) (nw c n c' : Nat) (wd : Nat → Int) (F : Nat → Fr) (a : Int) (w : World) (hA : Arr w w.heap.size A nw c wd) (hT : Tab w w.heap.size A' n c' F) (hu : U64w nw wd) :
    Calls Try.prog 20 #[.agg #[.int .i64 s, .slice A nw c, .slice A' n c'], .int .i64 a] w (Gives3 (shpR s nw wd n F a) (shpD s nw wd n F a) (shpE s nw wd n F a) w) := by
  obtain ⟨U, hU⟩ : ∃ U, U = w.alloc (.cells #[.int .i64 s, .slice A nw c, .slice A' n c'] 25) := ⟨_, rfl⟩
  have BU : Blk U w.heap.size 25 #[.int .i64 s, .slice A nw c, .slice A' n c'] := by rw [hU]; exact Blk.new _ _ _
  have HBU : Hid (Below w.heap.size w U) := by rw [hU]; exact (Below.refl _ _).alloc (Nat.le_refl _) _
  have HU := Lib.hid hU
  have HA := Lib.hid (hA.next HBU.out)
  have HT := Lib.hid (hT.next HBU.out)
  have p0 := BU.cell 0
  have p1 := BU.cell 1
  have p2 := BU.cell 2
  have pz := BU.lt
  simp at p0 p1 p2
  clear hA hT hU
  have c1 := refValid_any s A A' nw c n c' wd F U HA.out HT.out
  cases hv : validB s nw wd n F with
  | false =>
    obtain ⟨e1, e2, e3, _⟩ := shp_bad3 (a := a) (i := 0) (t := true) hv
    rw [e1, e2, e3]
    rw [hv] at c1
    clear hv e1 e2 e3
    go_enter Try.func20, Try.ntmps20
    go_wp2_with fail
    rw [← HU.out]
    refine c1.mono ?_
    rintro e U1 ⟨rfl, hb1⟩
    have HB1 := Lib.hid (below_next HBU.out (Nat.le_refl _) hb1)
    clear hb1
    go_wp2_with fail
    go_ret3
    exact ⟨rfl, HB1.out⟩
  | true =>
    have hvp := validB_of hv
    obtain ⟨s0, _⟩ := shB_yes hvp.1
    obtain ⟨K, rfl⟩ := Int.eq_ofNat_of_zero_le (show 0 ≤ s by omega)
    rw [hv] at c1
    have GO : ∀ W, Below U.heap.size U W → Calls Try.prog 50 #[.agg #[.int .i64 K, .slice A nw c, .slice A' n c'], .int .i64 a] W (Gives3 (shpR K nw wd n F a) (shpD K nw wd n F a) (shpE K nw wd n F a) W) := fun W hW =>
      refLook_any K A A' nw c n c' wd F a W (HA.out.next hW) (HT.out.next hW) hvp hu
    obtain ⟨R, hR⟩ : ∃ R, R = shpR K nw wd n F a := ⟨_, rfl⟩
    obtain ⟨D, hD⟩ : ∃ D, D = shpD K nw wd n F a := ⟨_, rfl⟩
    obtain ⟨y, hy⟩ : ∃ y, y = shpE K nw wd n F a := ⟨_, rfl⟩
    rw [← hR, ← hD, ← hy] at GO ⊢
    have HGO := Lib.hid GO
    clear GO hvp hv hR hD hy
    go_enter Try.func20, Try.ntmps20
    go_wp2_with fail
    rw [← HU.out]
    refine c1.mono ?_
    rintro e U1 ⟨rfl, hb1⟩
    have BU1 := BU.next hb1
    have HB1 := Lib.hid hb1
    have q0 := BU1.cell 0
    have q1 := BU1.cell 1
    have q2 := BU1.cell 2
    have qz := BU1.lt
    simp at q0 q1 q2
    clear hb1 p0 p1 p2
    go_wp2_with fail
    refine (HGO.out _ HB1.out).mono ?_
    rintro e U2 ⟨rfl, hb2⟩
    go_wp2_with fail
    go_ret3
    exact ⟨rfl, below_next HBU.out (Nat.le_refl _) (below_next HB1.out (Nat.le_refl _) hb2)⟩

theorem refSlots_any (s : Int) (A A' : Option Addr) (nw c n c' : Nat) (wd : Nat → Int) (F : Nat → Fr) (a : Int) (w : World) (hA : Arr w w.heap.size A nw c wd) (hT : Tab w w.heap.size A' n c' F) (hu : U64w nw wd) :
    Calls Try.prog 22 #[.agg #[.int .i64 s, .slice A nw c, .slice A' n c'], .int .i64 a] w (GivesLst (sltL s nw wd n F a) (shpE s nw wd n F a) w) := by
  obtain ⟨U, hU⟩ : ∃ U, U = w.alloc (.cells #[.int .i64 s, .slice A nw c, .slice A' n c'] 25) := ⟨_, rfl⟩
  have BU : Blk U w.heap.size 25 #[.int .i64 s, .slice A nw c, .slice A' n c'] := by rw [hU]; exact Blk.new _ _ _
  have HBU : Hid (Below w.heap.size w U) := by rw [hU]; exact (Below.refl _ _).alloc (Nat.le_refl _) _
  have HU := Lib.hid hU
  have HA := Lib.hid (hA.next HBU.out)
  have HT := Lib.hid (hT.next HBU.out)
  have p0 := BU.cell 0
  have p1 := BU.cell 1
  have p2 := BU.cell 2
  have pz := BU.lt
  simp at p0 p1 p2
  clear hA hT hU
  have c1 := refValid_any s A A' nw c n c' wd F U HA.out HT.out
  cases hv : validB s nw wd n F with
  | false =>
    obtain ⟨e1, _, _, e4, _⟩ := shp_bad3 (a := a) (i := 0) (t := true) hv
    rw [e1, e4]
    rw [hv] at c1
    clear hv e1 e4
    go_enter Try.func22, Try.ntmps22
    go_wp2_with fail
    rw [← HU.out]
    refine c1.mono ?_
    rintro e U1 ⟨rfl, hb1⟩
    have HB1 := Lib.hid (below_next HBU.out (Nat.le_refl _) hb1)
    clear hb1
    go_wp2_with fail
    go_ret2
    exact gives_none HB1.out
  | true =>
    have hvp := validB_of hv
    obtain ⟨s0, _⟩ := shB_yes hvp.1
    obtain ⟨K, rfl⟩ := Int.eq_ofNat_of_zero_le (show 0 ≤ s by omega)
    rw [hv] at c1
    have GO : ∀ W, Below U.heap.size U W → Calls Try.prog 51 #[.agg #[.int .i64 K, .slice A nw c, .slice A' n c'], .int .i64 a] W (GivesLst (sltL K nw wd n F a) (shpE K nw wd n F a) W) := fun W hW =>
      refFields_any K A A' nw c n c' wd F a W (HA.out.next hW) (HT.out.next hW) hvp hu
    obtain ⟨l, hl⟩ : ∃ l, l = sltL K nw wd n F a := ⟨_, rfl⟩
    obtain ⟨y, hy⟩ : ∃ y, y = shpE K nw wd n F a := ⟨_, rfl⟩
    rw [← hl, ← hy] at GO ⊢
    have HGO := Lib.hid GO
    clear GO hvp hv hl hy
    go_enter Try.func22, Try.ntmps22
    go_wp2_with fail
    rw [← HU.out]
    refine c1.mono ?_
    rintro e U1 ⟨rfl, hb1⟩
    have BU1 := BU.next hb1
    have HB1 := Lib.hid hb1
    have q0 := BU1.cell 0
    have q1 := BU1.cell 1
    have q2 := BU1.cell 2
    have qz := BU1.lt
    simp at q0 q1 q2
    clear hb1 p0 p1 p2
    go_wp2_with fail
    refine (HGO.out _ HB1.out).mono ?_
    rintro e U2 ⟨A3, c3, rfl, hn3, hb2⟩
    have HN3 := Lib.hid hn3
    have HB2 := Lib.hid hb2
    clear hn3 hb2
    go_wp2_with fail
    go_ret2
    exact ⟨A3, c3, rfl, HN3.out, below_next HBU.out (Nat.le_refl _) (below_next HB1.out (Nat.le_refl _) HB2.out)⟩

set_option maxHeartbeats 1000000 in
theorem refGet_any (s : Int) (A A' : Option Addr) (nw c n c' : Nat) (wd : Nat → Int) (F : Nat → Fr) (a i : Int) (t : Bool) (w : World) (hA : Arr w w.heap.size A nw c wd) (hT : Tab w w.heap.size A' n c' F) (hu : U64w nw wd) :
    Calls Try.prog 53 #[.agg #[.int .i64 s, .slice A nw c, .slice A' n c'], .int .i64 a, .int .i64 i, .bool t] w (GivesW (getV s nw wd n F a i t) (plcE s nw wd n F a i t) w) := by
  obtain ⟨U, hU⟩ : ∃ U, U = w.alloc (.cells #[.int .i64 s, .slice A nw c, .slice A' n c'] 25) := ⟨_, rfl⟩
  have BU : Blk U w.heap.size 25 #[.int .i64 s, .slice A nw c, .slice A' n c'] := by rw [hU]; exact Blk.new _ _ _
  have HBU : Hid (Below w.heap.size w U) := by rw [hU]; exact (Below.refl _ _).alloc (Nat.le_refl _) _
  have HU := Lib.hid hU
  have HA := Lib.hid (hA.next HBU.out)
  have HT := Lib.hid (hT.next HBU.out)
  have p0 := BU.cell 0
  have p1 := BU.cell 1
  have p2 := BU.cell 2
  have pz := BU.lt
  simp at p0 p1 p2
  clear hA hT hU
  have c1 := refValid_any s A A' nw c n c' wd F U HA.out HT.out
  cases hv : validB s nw wd n F with
  | false =>
    obtain ⟨_, _, _, _, e1, e2⟩ := shp_bad3 (a := a) (i := i) (t := t) hv
    rw [e1, e2]
    rw [hv] at c1
    clear hv e1 e2
    go_enter Try.func53, Try.ntmps53
    go_wp2_with fail
    rw [← HU.out]
    refine c1.mono ?_
    rintro e U1 ⟨rfl, hb1⟩
    have HB1 := Lib.hid (below_next HBU.out (Nat.le_refl _) hb1)
    clear hb1
    go_wp2_with fail
    go_ret2
    exact ⟨rfl, HB1.out⟩
  | true =>
    have hvp := validB_of hv
    obtain ⟨s0, _⟩ := shB_yes hvp.1
    obtain ⟨K, rfl⟩ := Int.eq_ofNat_of_zero_le (show 0 ≤ s by omega)
    rw [hv] at c1
    have GO : ∀ W, Below U.heap.size U W → Calls Try.prog 77 #[.agg #[.int .i64 K, .slice A nw c, .slice A' n c'], .int .i64 a, .int .i64 i, .bool t] W (Gives2 (plcV K nw wd n F a i t) (plcE K nw wd n F a i t) W) := fun W hW =>
      refPlace_any K A A' nw c n c' wd F a i t W (HA.out.next hW) (HT.out.next hW) hvp hu
    by_cases h0 : plcE K nw wd n F a i t = 0
    · obtain ⟨h1, h2, h3⟩ := plc_yes h0
      obtain ⟨P, hP, hlt⟩ := stp_nat (fld_step hu h1 h2 h3).1
      rw [← (plc_ok h1 h2 h3).2] at hP
      have hg : getV K nw wd n F a i t = wd P := by unfold getV; rw [if_pos h0, hP, Int.toNat_natCast]
      rw [h0, hP] at GO
      rw [h0, hg]
      have HGO := Lib.hid GO
      obtain ⟨b, o, rfl, hb, hc⟩ := HA.out.at_ P hlt
      obtain ⟨x, hx⟩ : ∃ x, x = wd P := ⟨_, rfl⟩
      rw [← hx] at hc ⊢
      have pi : 0 ≤ (P : Int) ∧ (P : Int) < nw := by omega
      have zb : b < U.heap.size := hb
      clear GO hvp hv h0 h1 h2 h3 hP hg hx hb
      go_enter Try.func53, Try.ntmps53
      go_wp2_with fail
      rw [← HU.out]
      refine c1.mono ?_
      rintro e U1 ⟨rfl, hb1⟩
      have BU1 := BU.next hb1
      have HB1 := Lib.hid hb1
      have q0 := BU1.cell 0
      have q1 := BU1.cell 1
      have q2 := BU1.cell 2
      have qz := BU1.lt
      simp at q0 q1 q2
      clear hb1 p0 p1 p2
      go_wp2_with fail
      refine (HGO.out _ HB1.out).mono ?_
      rintro e U2 ⟨rfl, hb2⟩
      have BU2 := BU1.next hb2
      have HB2 := Lib.hid (below_next HB1.out (Nat.le_refl _) hb2)
      have r0 := BU2.cell 0
      have r1 := BU2.cell 1
      have r2 := BU2.cell 2
      have rz := BU2.lt
      simp at r0 r1 r2
      have hc2 := (HB2.out.cell (p := ⟨b, o + P, none⟩) zb).trans hc
      have zb2 : b < U2.heap.size := Nat.lt_of_lt_of_le zb HB2.out.size
      clear hb2 q0 q1 q2
      go_wp2_with fail
      go_ret2
      exact ⟨rfl, below_next HBU.out (Nat.le_refl _) HB2.out⟩
    · have hg : getV K nw wd n F a i t = 0 := by unfold getV; rw [if_neg h0]
      rw [hg]
      obtain ⟨y, hy⟩ : ∃ y, y = plcE K nw wd n F a i t := ⟨_, rfl⟩
      obtain ⟨v, hv'⟩ : ∃ v, v = plcV K nw wd n F a i t := ⟨_, rfl⟩
      rw [← hy, ← hv'] at GO
      rw [← hy] at h0 ⊢
      have hne : (y != 0) = true := by simpa using h0
      have HGO := Lib.hid GO
      clear GO hvp hv hg hy hv' h0
      go_enter Try.func53, Try.ntmps53
      go_wp2_with fail
      rw [← HU.out]
      refine c1.mono ?_
      rintro e U1 ⟨rfl, hb1⟩
      have BU1 := BU.next hb1
      have HB1 := Lib.hid hb1
      have q0 := BU1.cell 0
      have q1 := BU1.cell 1
      have q2 := BU1.cell 2
      have qz := BU1.lt
      simp at q0 q1 q2
      clear hb1 p0 p1 p2
      go_wp2_with fail
      refine (HGO.out _ HB1.out).mono ?_
      rintro e U2 ⟨rfl, hb2⟩
      have HB2 := Lib.hid (below_next HB1.out (Nat.le_refl _) hb2)
      clear hb2
      go_wp2_with fail
      go_ret2
      exact ⟨rfl, below_next HBU.out (Nat.le_refl _) HB2.out⟩

set_option maxHeartbeats 2000000 in
theorem refSet_any (s : Int) (A A' : Option Addr) (nw c n c' : Nat) (wd : Nat → Int) (F : Nat → Fr) (a i : Int) (t : Bool) (v : Int) (w : World) (hA : Arr w w.heap.size A nw c wd) (hT : Tab w w.heap.size A' n c' F) (hu : U64w nw wd) :
    Calls Try.prog 55 #[.agg #[.int .i64 s, .slice A nw c, .slice A' n c'], .int .i64 a, .int .i64 i, .bool t, .int .u64 v] w (SetOut s nw n wd F a i t v w) := by
  obtain ⟨U, hU⟩ : ∃ U, U = (w.alloc (.cells #[.int .i64 s, .slice A nw c, .slice A' n c'] 25)).alloc (.cells #[.int .i64 0, .slice none 0 0, .slice none 0 0] 25) := ⟨_, rfl⟩
  have BU : Blk U w.heap.size 25 #[.int .i64 s, .slice A nw c, .slice A' n c'] := by rw [hU]; exact (Blk.new _ _ _).alloc _
  have BR : Blk U (w.heap.size + 1) 25 #[.int .i64 0, .slice none 0 0, .slice none 0 0] := by rw [hU]; exact Blk.newAt _ _ _ _ (by simp)
  have HBU : Hid (Below w.heap.size w U) := by rw [hU]; exact ((Below.refl _ _).alloc (Nat.le_refl _) _).alloc (by simp) _
  have HU := Lib.hid hU
  have HA := Lib.hid (hA.next HBU.out)
  have HT := Lib.hid (hT.next HBU.out)
  have p0 := BU.cell 0
  have p1 := BU.cell 1
  have p2 := BU.cell 2
  have pz := BU.lt
  simp at p0 p1 p2
  clear hA hT hU
  have c1 := refValid_any s A A' nw c n c' wd F U HA.out HT.out
  cases hv : validB s nw wd n F with
  | false =>
    obtain ⟨_, _, _, _, e1, _⟩ := shp_bad3 (a := a) (i := i) (t := t) hv
    have HE := Lib.hid e1
    rw [hv] at c1
    clear hv e1
    go_enter Try.func55, Try.ntmps55
    go_wp2_with fail
    rw [← HU.out]
    refine c1.mono ?_
    rintro e U1 ⟨rfl, hb1⟩
    have BR1 := BR.next hb1
    have HB1 := Lib.hid (below_next HBU.out (Nat.le_refl _) hb1)
    have r0 := BR1.cell 0
    have r1 := BR1.cell 1
    have r2 := BR1.cell 2
    have f0 := BR1.frozen 0
    have f1 := BR1.frozen 1
    have f2 := BR1.frozen 2
    have rz := BR1.lt
    simp at r0 r1 r2
    clear hb1 p0 p1 p2 pz
    go_wp2_with fail
    refine bodyPost_ret (v := .tuple #[.agg #[.int .i64 0, .slice none 0 0, .slice none 0 0], .int .i64 1]) (by simp [results, Try.results55, go_sem, r0, r1, r2]) rfl (.inl ⟨1, HE.out, by decide, rfl, below_put3 HB1.out (by omega) _ _ _⟩)
  | true =>
    have hvp := validB_of hv
    obtain ⟨n2, n64, nw0, nw1⟩ : 2 ≤ n ∧ n ≤ 64 ∧ 0 < nw ∧ nw ≤ 16384 := by
      obtain ⟨s0, _⟩ := shB_yes hvp.1
      obtain ⟨K, rfl⟩ := Int.eq_ofNat_of_zero_le (show 0 ≤ s by omega)
      exact sp_bounds hvp
    obtain ⟨s0, _⟩ := shB_yes hvp.1
    obtain ⟨K, rfl⟩ := Int.eq_ofNat_of_zero_le (show 0 ≤ s by omega)
    rw [hv] at c1
    have GO : ∀ W, Below U.heap.size U W → Calls Try.prog 77 #[.agg #[.int .i64 K, .slice A nw c, .slice A' n c'], .int .i64 a, .int .i64 i, .bool t] W (Gives2 (plcV K nw wd n F a i t) (plcE K nw wd n F a i t) W) := fun W hW =>
      refPlace_any K A A' nw c n c' wd F a i t W (HA.out.next hW) (HT.out.next hW) hvp hu
    by_cases h0 : plcE K nw wd n F a i t = 0
    · obtain ⟨h1, h2, h3⟩ := plc_yes h0
      obtain ⟨P, hP, hlt⟩ := stp_nat (fld_step hu h1 h2 h3).1
      rw [← (plc_ok h1 h2 h3).2] at hP
      have hs : (fun j => if j = P then v else wd j) = setW K nw wd n F a i t v := by
        unfold setW
        rw [hP, Int.toNat_natCast]
      have HS := Lib.hid hs
      have H0 := Lib.hid h0
      rw [h0, hP] at GO
      have HGO := Lib.hid GO
      have pi : 0 ≤ (P : Int) ∧ (P : Int) < nw := by omega
      clear GO hvp hv h0 h1 h2 h3 hP hs
      go_enter Try.func55, Try.ntmps55
      go_wp2_with fail
      rw [← HU.out]
      refine c1.mono ?_
      rintro e U1 ⟨rfl, hb1⟩
      have BU1 := BU.next hb1
      have BR1 := BR.next hb1
      have HB1 := Lib.hid hb1
      have q0 := BU1.cell 0
      have q1 := BU1.cell 1
      have q2 := BU1.cell 2
      have qz := BU1.lt
      simp at q0 q1 q2
      clear hb1 p0 p1 p2 pz
      go_wp2_with fail
      refine (HGO.out _ HB1.out).mono ?_
      rintro e U2 ⟨rfl, hb2⟩
      have BU2 := BU1.next hb2
      have BR2 := BR1.next hb2
      have HB2 := Lib.hid (below_next HB1.out (Nat.le_refl _) hb2)
      have r0 := BU2.cell 0
      have r1 := BU2.cell 1
      have r2 := BU2.cell 2
      have rz := BU2.lt
      simp at r0 r1 r2
      clear hb2 q0 q1 q2 qz
      go_wp2_with fail
      refine (copy_any K A A' nw c n c' wd F U2 (HA.out.next HB2.out) (HT.out.next HB2.out) (by omega) (by omega) (by omega)).mono ?_
      rintro e U3 ⟨A1, c1, g, c2, rfl, ho, ht, hb3⟩
      obtain ⟨x, rfl, xb, xz⟩ := ho.where_ nw0
      have hgb := ht.bounds
      have BR3 := BR2.next hb3
      have HB3 : Hid (Below w.heap.size w U3) := below_next HBU.out (Nat.le_refl _) (below_next HB2.out (Nat.le_refl _) hb3)
      have z1 : w.heap.size + 1 < U2.heap.size := BR2.lt
      obtain ⟨X, hX⟩ : ∃ X, X = U3.alloc (.cells #[.int .i64 K, .slice (some ⟨x, 0, none⟩) nw c1, .slice (some ⟨g, 0, none⟩) n c2] 25) := ⟨_, rfl⟩
      have BO : Blk X U3.heap.size 25 #[.int .i64 K, .slice (some ⟨x, 0, none⟩) nw c1, .slice (some ⟨g, 0, none⟩) n c2] := by rw [hX]; exact Blk.new _ _ _
      have hbx : Below U3.heap.size U3 X := by rw [hX]; exact (Below.refl _ _).alloc (Nat.le_refl _) _
      have BR4 := BR3.next hbx
      have HB4 : Hid (Below w.heap.size w X) := below_next HB3.out (Nat.le_refl _) hbx
      have HO4 := Lib.hid (ho.below hbx)
      have HT4 := Lib.hid (ht.below hbx)
      have HX := Lib.hid hX
      obtain ⟨gx, hgx, _, gx2, wc0, wf0, hnew⟩ := HO4.out.spot P hlt v
      injection hgx with hgx
      injection hgx with hgx
      subst hgx
      rw [HS.out] at hnew
      have hT5 := (HT4.out.beside HO4.out (turn_set (turn_below (a := X) (w := X) (Below.refl _ _)) P (.int .u64 v))).1
      have HB5 := HB4.out.setCell (p := ⟨x, P, none⟩) (show w.heap.size ≤ x by omega) (.int .u64 v)
      have HN5 := Lib.hid hnew
      have HT5 := Lib.hid hT5
      have HB5 := Lib.hid HB5
      have BO5 := BO.far (p := ⟨x, P, none⟩) (show U3.heap.size ≠ x by omega) (.int .u64 v)
      have BR5 := BR4.far (p := ⟨x, P, none⟩) (show w.heap.size + 1 ≠ x by omega) (.int .u64 v)
      obtain ⟨Y, hY⟩ : ∃ Y, Y = X.setCell ⟨x, P, none⟩ (.int .u64 v) := ⟨_, rfl⟩
      rw [← hY] at HN5 HT5 HB5 BO5 BR5
      have HY := Lib.hid hY
      have o0 := BO.cell 0
      have o1 := BO.cell 1
      have o2 := BO.cell 2
      have oz := BO.lt
      simp at o0 o1 o2
      clear ho ht hb3 hX hbx BR3 hnew hT5 hY r0 r1 r2 rz BU BU1 BU2 BR BR1 BR2
      go_upto_region 7 with fail
      rw [← HX.out]
      go_upto_region 8 with fail
      rw [← HY.out]
      have y0 := BO5.cell 0
      have y1 := BO5.cell 1
      have y2 := BO5.cell 2
      have yz := BO5.lt
      have r0 := BR5.cell 0
      have r1 := BR5.cell 1
      have r2 := BR5.cell 2
      have f0 := BR5.frozen 0
      have f1 := BR5.frozen 1
      have f2 := BR5.frozen 2
      have rz := BR5.lt
      simp at y0 y1 y2 r0 r1 r2
      clear o0 o1 o2 oz wc0 wf0
      go_wp2
      refine bodyPost_ret (v := .tuple #[.agg #[.int .i64 K, .slice (some ⟨x, 0, none⟩) nw c1, .slice (some ⟨g, 0, none⟩) n c2], .int .i64 0]) (by simp [results, Try.results55, go_sem, r0, r1, r2]) rfl (.inr ⟨H0.out, _, _, _, _, rfl, ?_, ?_, ?_⟩)
      · exact (HN5.out.put3 z1 _ _ _).lower (by omega)
      · exact (HT5.out.put3 z1 _ _ _).lower (by omega)
      · exact below_put3 HB5.out (by omega) _ _ _
    · obtain ⟨y, hy⟩ : ∃ y, y = plcE K nw wd n F a i t := ⟨_, rfl⟩
      obtain ⟨v', hv'⟩ : ∃ v, v = plcV K nw wd n F a i t := ⟨_, rfl⟩
      rw [← hy, ← hv'] at GO
      rw [← hy] at h0
      have hne : (y != 0) = true := by simpa using h0
      have HGO := Lib.hid GO
      have HY := Lib.hid hy
      have HY0 := Lib.hid h0
      clear GO hvp hv hy hv' h0
      go_enter Try.func55, Try.ntmps55
      go_wp2_with fail
      rw [← HU.out]
      refine c1.mono ?_
      rintro e U1 ⟨rfl, hb1⟩
      have BU1 := BU.next hb1
      have HB1 := Lib.hid hb1
      have q0 := BU1.cell 0
      have q1 := BU1.cell 1
      have q2 := BU1.cell 2
      have qz := BU1.lt
      simp at q0 q1 q2
      clear hb1 p0 p1 p2
      go_wp2_with fail
      refine (HGO.out _ HB1.out).mono ?_
      rintro e U2 ⟨rfl, hb2⟩
      have BR2 := BR.next (below_next HB1.out (Nat.le_refl _) hb2)
      have HB2 := Lib.hid (below_next HBU.out (Nat.le_refl _) (below_next HB1.out (Nat.le_refl _) hb2))
      have r0 := BR2.cell 0
      have r1 := BR2.cell 1
      have r2 := BR2.cell 2
      have f0 := BR2.frozen 0
      have f1 := BR2.frozen 1
      have f2 := BR2.frozen 2
      have rz := BR2.lt
      simp at r0 r1 r2
      clear hb2 q0 q1 q2
      go_wp2_with fail
      refine bodyPost_ret (v := .tuple #[.agg #[.int .i64 0, .slice none 0 0, .slice none 0 0], .int .i64 y]) (by simp [results, Try.results55, go_sem, r0, r1, r2]) rfl (.inl ⟨y, HY.out.symm, HY0.out, rfl, below_put3 HB2.out (by omega) _ _ _⟩)

theorem refRef_any (s : Int) (A A' : Option Addr) (nw c n c' : Nat) (wd : Nat → Int) (F : Nat → Fr) (a i : Int) (w : World) (hA : Arr w w.heap.size A nw c wd) (hT : Tab w w.heap.size A' n c' F) (hu : U64w nw wd) :
    Calls Try.prog 25 #[.agg #[.int .i64 s, .slice A nw c, .slice A' n c'], .int .i64 a, .int .i64 i] w (GivesW (getV s nw wd n F a i true) (plcE s nw wd n F a i true) w) := by
  obtain ⟨U, hU⟩ : ∃ U, U = w.alloc (.cells #[.int .i64 s, .slice A nw c, .slice A' n c'] 25) := ⟨_, rfl⟩
  have BU : Blk U w.heap.size 25 #[.int .i64 s, .slice A nw c, .slice A' n c'] := by rw [hU]; exact Blk.new _ _ _
  have HBU : Hid (Below w.heap.size w U) := by rw [hU]; exact (Below.refl _ _).alloc (Nat.le_refl _) _
  have HU := Lib.hid hU
  have c1 := refGet_any s A A' nw c n c' wd F a i true U (hA.next HBU.out) (hT.next HBU.out) hu
  obtain ⟨x, hx⟩ : ∃ x, x = getV s nw wd n F a i true := ⟨_, rfl⟩
  obtain ⟨y, hy⟩ : ∃ y, y = plcE s nw wd n F a i true := ⟨_, rfl⟩
  rw [← hx, ← hy] at c1 ⊢
  have p0 := BU.cell 0
  have p1 := BU.cell 1
  have p2 := BU.cell 2
  have pz := BU.lt
  simp at p0 p1 p2
  clear hA hT hU hx hy
  go_enter Try.func25, Try.ntmps25
  go_wp2_with fail
  rw [← HU.out]
  refine c1.mono ?_
  rintro e U1 ⟨rfl, hb1⟩
  have HB1 := Lib.hid (below_next HBU.out (Nat.le_refl _) hb1)
  clear hb1
  go_wp2_with fail
  go_ret2
  exact ⟨rfl, HB1.out⟩

theorem refData_any (s : Int) (A A' : Option Addr) (nw c n c' : Nat) (wd : Nat → Int) (F : Nat → Fr) (a i : Int) (w : World) (hA : Arr w w.heap.size A nw c wd) (hT : Tab w w.heap.size A' n c' F) (hu : U64w nw wd) :
    Calls Try.prog 29 #[.agg #[.int .i64 s, .slice A nw c, .slice A' n c'], .int .i64 a, .int .i64 i] w (GivesW (getV s nw wd n F a i false) (plcE s nw wd n F a i false) w) := by
  obtain ⟨U, hU⟩ : ∃ U, U = w.alloc (.cells #[.int .i64 s, .slice A nw c, .slice A' n c'] 25) := ⟨_, rfl⟩
  have BU : Blk U w.heap.size 25 #[.int .i64 s, .slice A nw c, .slice A' n c'] := by rw [hU]; exact Blk.new _ _ _
  have HBU : Hid (Below w.heap.size w U) := by rw [hU]; exact (Below.refl _ _).alloc (Nat.le_refl _) _
  have HU := Lib.hid hU
  have c1 := refGet_any s A A' nw c n c' wd F a i false U (hA.next HBU.out) (hT.next HBU.out) hu
  obtain ⟨x, hx⟩ : ∃ x, x = getV s nw wd n F a i false := ⟨_, rfl⟩
  obtain ⟨y, hy⟩ : ∃ y, y = plcE s nw wd n F a i false := ⟨_, rfl⟩
  rw [← hx, ← hy] at c1 ⊢
  have p0 := BU.cell 0
  have p1 := BU.cell 1
  have p2 := BU.cell 2
  have pz := BU.lt
  simp at p0 p1 p2
  clear hA hT hU hx hy
  go_enter Try.func29, Try.ntmps29
  go_wp2_with fail
  rw [← HU.out]
  refine c1.mono ?_
  rintro e U1 ⟨rfl, hb1⟩
  have HB1 := Lib.hid (below_next HBU.out (Nat.le_refl _) hb1)
  clear hb1
  go_wp2_with fail
  go_ret2
  exact ⟨rfl, HB1.out⟩

set_option maxHeartbeats 1000000 in
theorem refSetRef_any (s : Int) (A A' : Option Addr) (nw c n c' : Nat) (wd : Nat → Int) (F : Nat → Fr) (a i v : Int) (w : World) (hA : Arr w w.heap.size A nw c wd) (hT : Tab w w.heap.size A' n c' F) (hu : U64w nw wd) :
    Calls Try.prog 27 #[.agg #[.int .i64 s, .slice A nw c, .slice A' n c'], .int .i64 a, .int .i64 i, .int .u64 v] w (SetOut s nw n wd F a i true v w) := by
  obtain ⟨U, hU⟩ : ∃ U, U = (w.alloc (.cells #[.int .i64 s, .slice A nw c, .slice A' n c'] 25)).alloc (.cells #[.int .i64 0, .slice none 0 0, .slice none 0 0] 25) := ⟨_, rfl⟩
  have BU : Blk U w.heap.size 25 #[.int .i64 s, .slice A nw c, .slice A' n c'] := by rw [hU]; exact (Blk.new _ _ _).alloc _
  have BR : Blk U (w.heap.size + 1) 25 #[.int .i64 0, .slice none 0 0, .slice none 0 0] := by rw [hU]; exact Blk.newAt _ _ _ _ (by simp)
  have HBU : Hid (Below w.heap.size w U) := by rw [hU]; exact ((Below.refl _ _).alloc (Nat.le_refl _) _).alloc (by simp) _
  have HU := Lib.hid hU
  have c1 := refSet_any s A A' nw c n c' wd F a i true v U (hA.next HBU.out) (hT.next HBU.out) hu
  have p0 := BU.cell 0
  have p1 := BU.cell 1
  have p2 := BU.cell 2
  have pz := BU.lt
  simp at p0 p1 p2
  clear hA hT hU
  go_enter Try.func27, Try.ntmps27
  go_wp2_with fail
  rw [← HU.out]
  refine c1.mono ?_
  have z1 : w.heap.size + 1 < U.heap.size := BR.lt
  rintro e U1 (⟨y, h1, h2, rfl, hb1⟩ | ⟨h0, A1, c1, g, c2, rfl, h1, h2, hb1⟩)
  · have BR1 := BR.next hb1
    have HB1 := Lib.hid (below_next HBU.out (Nat.le_refl _) hb1)
    have H1 := Lib.hid h1
    have H2 := Lib.hid h2
    have r0 := BR1.cell 0
    have r1 := BR1.cell 1
    have r2 := BR1.cell 2
    have f0 := BR1.frozen 0
    have f1 := BR1.frozen 1
    have f2 := BR1.frozen 2
    have rz := BR1.lt
    simp at r0 r1 r2
    clear hb1 p0 p1 p2 pz h1 h2
    go_wp2_with fail
    refine bodyPost_ret (v := .tuple #[.agg #[.int .i64 0, .slice none 0 0, .slice none 0 0], .int .i64 y]) (by simp [results, Try.results27, go_sem, r0, r1, r2]) rfl (.inl ⟨y, H1.out, H2.out, rfl, below_put3 HB1.out (by omega) _ _ _⟩)
  · have BR1 := BR.next hb1
    have HB1 := Lib.hid (below_next HBU.out (Nat.le_refl _) hb1)
    have H0 := Lib.hid h0
    have H1 := Lib.hid h1
    have H2 := Lib.hid h2
    have r0 := BR1.cell 0
    have r1 := BR1.cell 1
    have r2 := BR1.cell 2
    have f0 := BR1.frozen 0
    have f1 := BR1.frozen 1
    have f2 := BR1.frozen 2
    have rz := BR1.lt
    simp at r0 r1 r2
    clear hb1 p0 p1 p2 pz h1 h2 h0
    go_wp2_with fail
    refine bodyPost_ret (v := .tuple #[.agg #[.int .i64 s, .slice A1 nw c1, .slice (some ⟨g, 0, none⟩) n c2], .int .i64 0]) (by simp [results, Try.results27, go_sem, r0, r1, r2]) rfl (.inr ⟨H0.out, _, _, _, _, rfl, ?_, ?_, ?_⟩)
    · exact (H1.out.put3 z1 _ _ _).lower (by omega)
    · exact (H2.out.put3 z1 _ _ _).lower (by omega)
    · exact below_put3 HB1.out (by omega) _ _ _

set_option maxHeartbeats 1000000 in
theorem refSetData_any (s : Int) (A A' : Option Addr) (nw c n c' : Nat) (wd : Nat → Int) (F : Nat → Fr) (a i v : Int) (w : World) (hA : Arr w w.heap.size A nw c wd) (hT : Tab w w.heap.size A' n c' F) (hu : U64w nw wd) :
    Calls Try.prog 31 #[.agg #[.int .i64 s, .slice A nw c, .slice A' n c'], .int .i64 a, .int .i64 i, .int .u64 v] w (SetOut s nw n wd F a i false v w) := by
  obtain ⟨U, hU⟩ : ∃ U, U = (w.alloc (.cells #[.int .i64 s, .slice A nw c, .slice A' n c'] 25)).alloc (.cells #[.int .i64 0, .slice none 0 0, .slice none 0 0] 25) := ⟨_, rfl⟩
  have BU : Blk U w.heap.size 25 #[.int .i64 s, .slice A nw c, .slice A' n c'] := by rw [hU]; exact (Blk.new _ _ _).alloc _
  have BR : Blk U (w.heap.size + 1) 25 #[.int .i64 0, .slice none 0 0, .slice none 0 0] := by rw [hU]; exact Blk.newAt _ _ _ _ (by simp)
  have HBU : Hid (Below w.heap.size w U) := by rw [hU]; exact ((Below.refl _ _).alloc (Nat.le_refl _) _).alloc (by simp) _
  have HU := Lib.hid hU
  have c1 := refSet_any s A A' nw c n c' wd F a i false v U (hA.next HBU.out) (hT.next HBU.out) hu
  have p0 := BU.cell 0
  have p1 := BU.cell 1
  have p2 := BU.cell 2
  have pz := BU.lt
  simp at p0 p1 p2
  clear hA hT hU
  go_enter Try.func31, Try.ntmps31
  go_wp2_with fail
  rw [← HU.out]
  refine c1.mono ?_
  have z1 : w.heap.size + 1 < U.heap.size := BR.lt
  rintro e U1 (⟨y, h1, h2, rfl, hb1⟩ | ⟨h0, A1, c1, g, c2, rfl, h1, h2, hb1⟩)
  · have BR1 := BR.next hb1
    have HB1 := Lib.hid (below_next HBU.out (Nat.le_refl _) hb1)
    have H1 := Lib.hid h1
    have H2 := Lib.hid h2
    have r0 := BR1.cell 0
    have r1 := BR1.cell 1
    have r2 := BR1.cell 2
    have f0 := BR1.frozen 0
    have f1 := BR1.frozen 1
    have f2 := BR1.frozen 2
    have rz := BR1.lt
    simp at r0 r1 r2
    clear hb1 p0 p1 p2 pz h1 h2
    go_wp2_with fail
    refine bodyPost_ret (v := .tuple #[.agg #[.int .i64 0, .slice none 0 0, .slice none 0 0], .int .i64 y]) (by simp [results, Try.results31, go_sem, r0, r1, r2]) rfl (.inl ⟨y, H1.out, H2.out, rfl, below_put3 HB1.out (by omega) _ _ _⟩)
  · have BR1 := BR.next hb1
    have HB1 := Lib.hid (below_next HBU.out (Nat.le_refl _) hb1)
    have H0 := Lib.hid h0
    have H1 := Lib.hid h1
    have H2 := Lib.hid h2
    have r0 := BR1.cell 0
    have r1 := BR1.cell 1
    have r2 := BR1.cell 2
    have f0 := BR1.frozen 0
    have f1 := BR1.frozen 1
    have f2 := BR1.frozen 2
    have rz := BR1.lt
    simp at r0 r1 r2
    clear hb1 p0 p1 p2 pz h1 h2 h0
    go_wp2_with fail
    refine bodyPost_ret (v := .tuple #[.agg #[.int .i64 s, .slice A1 nw c1, .slice (some ⟨g, 0, none⟩) n c2], .int .i64 0]) (by simp [results, Try.results31, go_sem, r0, r1, r2]) rfl (.inr ⟨H0.out, _, _, _, _, rfl, ?_, ?_, ?_⟩)
    · exact (H1.out.put3 z1 _ _ _).lower (by omega)
    · exact (H2.out.put3 z1 _ _ _).lower (by omega)
    · exact below_put3 HB1.out (by omega) _ _ _
end Go.Proofs.Ytfjdafnejhgijaa
