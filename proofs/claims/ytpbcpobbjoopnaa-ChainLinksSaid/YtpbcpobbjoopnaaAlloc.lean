/-
  Contracts of the reference of layer 9: Valid, Alloc.
-/
import Derived.Test.YtpbcpobbjoopnaaGrow
import Derived.Test.YtpbcpobbjoopnaaCopy
import Derived.RegionTactic
import Derived.ChangeAlike
import Derived.Deep.DeepCutAuto
namespace Go.Proofs.Ytpbcpobbjoopnaa
open Go.RowKit
set_option maxRecDepth 100000
set_option linter.unusedVariables false

theorem incValid_any (k : Nat) (A A' : Option Addr) (nw c n c' : Nat) (wd : Nat → Int) (F : Nat → Fr) (sq bt fi la wo : Int) (w : World) (hA : Arr w w.heap.size A nw c wd) (hT : Tab w w.heap.size A' n c' F) (hv : ValidP k nw wd n F) :
    Calls Try.prog 60 #[.agg #[.int .i64 k, .slice A nw c, .slice A' n c'], .agg #[.int .i64 sq, .int .i64 bt, .int .i64 fi, .int .i64 la, .int .i64 wo]] w (FitsOf k n nw F sq bt fi la wo w) := by
  have hk := shB_yes hv.1
  have hn := nfB_yes hv.2.1
  have hnw : nw = n * 2 ^ k := by have := hv.2.2.1; rw [Int.toNat_natCast] at this; exact this
  have hpl := prod_le (show n ≤ 64 by omega) (show k ≤ 8 by omega)
  rw [← hnw] at hpl
  have HA := Lib.hid hA
  have HT := Lib.hid hT
  have HV := Lib.hid (validB_yes hv)
  have HFV := Lib.hid hv.fv
  obtain ⟨U, hU⟩ : ∃ U, U = (w.alloc (.cells #[.int .i64 k, .slice A nw c, .slice A' n c'] 25)).alloc (.cells #[.int .i64 sq, .int .i64 bt, .int .i64 fi, .int .i64 la, .int .i64 wo] 53) := ⟨_, rfl⟩
  have BS : Blk U w.heap.size 25 #[.int .i64 k, .slice A nw c, .slice A' n c'] := by rw [hU]; exact (Blk.new _ _ _).alloc _
  have BI : Blk U (w.heap.size + 1) 53 #[.int .i64 sq, .int .i64 bt, .int .i64 fi, .int .i64 la, .int .i64 wo] := by rw [hU]; exact Blk.newAt _ _ _ _ (by simp)
  have HBU : Hid (Below w.heap.size w U) := by rw [hU]; exact ((Below.refl _ _).alloc (Nat.le_refl _) _).alloc (by simp) _
  have HU := Lib.hid hU
  clear hA hT hv hU hnw
  go_enter Try.func60, Try.ntmps60
  go_wp2_with fail
  rw [← HU.out]
  refine (refValid_any k A A' nw c n c' wd F U (HA.out.next HBU.out) (HT.out.next HBU.out)).mono ?_
  rintro e U1 ⟨rfl, hb1⟩
  rw [HV.out]
  have BS1 := BS.next hb1
  have BI1 := BI.next hb1
  have HB1 : Hid (Below w.heap.size w U1) := below_next HBU.out (Nat.le_refl _) hb1
  have p0 := BS1.cell 0
  have p1 := BS1.cell 1
  have p2 := BS1.cell 2
  have q0 := BI1.cell 0
  have q1 := BI1.cell 1
  have q2 := BI1.cell 2
  have q3 := BI1.cell 3
  have q4 := BI1.cell 4
  simp at p0 p1 p2 q0 q1 q2 q3 q4
  clear hb1
  go_wp2_with fail
  refine (fits_any k A A' nw c n c' F sq bt fi la wo U1 (HT.out.next HB1.out) (by omega) HFV.out (by omega) (by omega)).mono ?_
  rintro e U2 ⟨b, rfl, hF, hb2⟩
  have HF := Lib.hid hF
  have HB2 := Lib.hid (below_next HB1.out (Nat.le_refl _) hb2)
  clear hF hb2
  go_wp2
  go_ret
  exact ⟨b, by simp, HF.out, HB2.out⟩

/-- What Alloc hands back. -/
def AllocOf (k nw n : Nat) (wd : Nat → Int) (d : Nat) (F0 : Nat → Fr) (sq0 bt0 wo0 : Int) (w : World) (e : Ending) (w' : World) : Prop :=
  ∃ (v0 v1 v2 : Value) (i0 i1 i2 i3 i4 a err : Int), e = .returned (.tuple #[.agg #[v0, v1, v2], .agg #[.int .i64 i0, .int .i64 i1, .int .i64 i2, .int .i64 i3, .int .i64 i4], .int .i64 a, .int .i64 err]) ∧ Below w.heap.size w w' ∧ (∃ (k1 : Int) (A1 : Option Addr) (n1 c1 : Nat) (A2 : Option Addr) (n2 c2 : Nat), v0 = .int .i64 k1 ∧ v1 = .slice A1 n1 c1 ∧ v2 = .slice A2 n2 c2) ∧
    (err = 0 → ∃ (A : Option Addr) (c g c' : Nat) (F : Nat → Fr) (first last sq st : Int) (m W : Nat), v0 = .int .i64 k ∧ v1 = .slice A nw c ∧ v2 = .slice (some ⟨g, 0, none⟩) n c' ∧ Own w' w.heap.size A nw c wd ∧ OwnT w' w.heap.size (some ⟨g, 0, none⟩) n c' F ∧
      ValidP k nw wd n F ∧ ChainP F n first last m sq st ∧ stB st sq = true ∧ a = addrP F k first W ∧ W + d ≤ m * 2 ^ k ∧ (∀ f, (F f).ow = (F0 f).ow ∨ (F f).ow = sq0) ∧ i0 = sq0 ∧
      (i1 = bt0 ∧ i2 = first ∧ i3 = last ∧ i4 = ((W + d : Nat) : Int) ∧ sq = sq0 ∧ st = bt0 * 4294967296 + sq0 ∧ m = ceilV (W + d) k ∧ wo0 = W ∧ (∀ f, (F0 f).ow ≠ -1 → (F0 f).ow ≠ sq0 → F f = F0 f) ∧ cntO F sq0 n + ceilV W k = cntO F0 sq0 n + ceilV (W + d) k))

theorem OwnT.bounds {w : World} {base n c g : Nat} {F : Nat → Fr} (h : OwnT w base (some ⟨g, 0, none⟩) n c F) : base ≤ g ∧ g < w.heap.size := by
  obtain ⟨_, _, h | ⟨g', cur, hA, hb, hg, _⟩⟩ := h
  · cases h.1
  · injection hA with hA; injection hA with hA; subst hA; exact ⟨hb, blk_lt hg⟩
/-- Words stay where a table alone has turned. -/
theorem Own.beside {a w : World} {g base base' n c n' c' : Nat} {A : Option Addr} {f : Nat → Int} {F : Nat → Fr} (h : Own a base A n c f) (ht : OwnT a base' (some ⟨g, 0, none⟩) n' c' F) (hg : a.grownBy w (some g)) : Own w base A n c f := by
  obtain ⟨h1, h2, h3⟩ := h
  refine ⟨h1, h2, ?_⟩
  rcases h3 with h3 | ⟨x, cur, hA, hb, hh, hs⟩
  · exact .inl h3
  · refine .inr ⟨x, cur, hA, hb, (hg.block x (blk_lt hh) (fun e => ?_)).trans hh, hs⟩
    injection e with e
    obtain ⟨_, _, t | ⟨g', cur', hA', _, hh', _⟩⟩ := ht
    · cases t.1
    · injection hA' with hA'
      injection hA' with hA'
      subst hA'
      rw [e] at hh
      rw [hh] at hh'
      injection hh' with hh'
      injection hh' with _ ht
      exact absurd ht (by decide)

section
variable {w : World} {base x y n c : Nat} {A : Option Addr} {f : Nat → Int} {F : Nat → Fr}
theorem Own.drew (h : Own w base A n c f) : Own w.drew base A n c f := h
theorem OwnT.drew (h : OwnT w base A n c F) : OwnT w.drew base A n c F := h
theorem Own.put8 (h : Own w base A n c f) (hx : x < base) (hy : y < base) (v0 v1 v2 u0 u1 u2 u3 u4 : Value) :
    Own ((((((((w.setCell ⟨x, 0, none⟩ v0).setCell ⟨x, 1, none⟩ v1).setCell ⟨x, 2, none⟩ v2).setCell ⟨y, 0, none⟩ u0).setCell ⟨y, 1, none⟩ u1).setCell ⟨y, 2, none⟩ u2).setCell ⟨y, 3, none⟩ u3).setCell ⟨y, 4, none⟩ u4) base A n c f :=
  (((h.put3 hx v0 v1 v2).put3 hy u0 u1 u2).far (p := ⟨y, 3, none⟩) hy u3).far (p := ⟨y, 4, none⟩) hy u4
theorem OwnT.put8 (h : OwnT w base A n c F) (hx : x < base) (hy : y < base) (v0 v1 v2 u0 u1 u2 u3 u4 : Value) :
    OwnT ((((((((w.setCell ⟨x, 0, none⟩ v0).setCell ⟨x, 1, none⟩ v1).setCell ⟨x, 2, none⟩ v2).setCell ⟨y, 0, none⟩ u0).setCell ⟨y, 1, none⟩ u1).setCell ⟨y, 2, none⟩ u2).setCell ⟨y, 3, none⟩ u3).setCell ⟨y, 4, none⟩ u4) base A n c F :=
  (((h.put3 hx v0 v1 v2).put3 hy u0 u1 u2).far (p := ⟨y, 3, none⟩) hy u3).far (p := ⟨y, 4, none⟩) hy u4
end

/-- What holds in the middle of Alloc. -/
def AllocMid (k : Nat) (A A' : Option Addr) (nw c n c' : Nat) (sq bt fi la : Int) (W : Nat) (w wx : World) : Prop :=
  Blk wx w.heap.size 25 #[.int .i64 k, .slice A nw c, .slice A' n c'] ∧ Blk wx (w.heap.size + 1) 53 #[.int .i64 sq, .int .i64 bt, .int .i64 fi, .int .i64 la, .int .i64 W] ∧
    Blk wx (w.heap.size + 2) 25 #[.int .i64 0, .slice none 0 0, .slice none 0 0] ∧ Blk wx (w.heap.size + 3) 53 #[.int .i64 0, .int .i64 0, .int .i64 0, .int .i64 0, .int .i64 0] ∧ Below w.heap.size w wx

theorem below_put8 {w a : World} {B x y : Nat} (h : Below B a w) (hx : B ≤ x) (hy : B ≤ y) (v0 v1 v2 u0 u1 u2 u3 u4 : Value) :
    Below B a ((((((((w.setCell ⟨x, 0, none⟩ v0).setCell ⟨x, 1, none⟩ v1).setCell ⟨x, 2, none⟩ v2).setCell ⟨y, 0, none⟩ u0).setCell ⟨y, 1, none⟩ u1).setCell ⟨y, 2, none⟩ u2).setCell ⟨y, 3, none⟩ u3).setCell ⟨y, 4, none⟩ u4) :=
  ((below_put3 (below_put3 h hx v0 v1 v2) hy u0 u1 u2).setCell (p := ⟨y, 3, none⟩) hy u3).setCell (p := ⟨y, 4, none⟩) hy u4

set_option maxHeartbeats 4000000 in
theorem alloc_any (k : Nat) (A A' : Option Addr) (nw c n c' : Nat) (wd : Nat → Int) (F : Nat → Fr) (sq bt fi la wo : Int) (d : Nat) (w : World) (hA : Arr w w.heap.size A nw c wd) (hT : Tab w w.heap.size A' n c' F) (hv : ValidP k nw wd n F) (hd : 1 ≤ d ∧ d ≤ 48) :
    Calls Try.prog 45 #[.agg #[.int .i64 k, .slice A nw c, .slice A' n c'], .agg #[.int .i64 sq, .int .i64 bt, .int .i64 fi, .int .i64 la, .int .i64 wo], .int .i64 d] w (AllocOf k nw n wd d F sq bt wo w) := by
  have hk := shB_yes hv.1
  have hn := nfB_yes hv.2.1
  have hnw : nw = n * 2 ^ k := by have := hv.2.2.1; rw [Int.toNat_natCast] at this; exact this
  have hpl := prod_le (show n ≤ 64 by omega) (show k ≤ 8 by omega)
  rw [← hnw] at hpl
  have HA := Lib.hid hA
  have HT := Lib.hid hT
  have HV := Lib.hid hv
  have HNW := Lib.hid hnw
  obtain ⟨U, hU⟩ : ∃ U, U = (((w.alloc (.cells #[.int .i64 k, .slice A nw c, .slice A' n c'] 25)).alloc (.cells #[.int .i64 sq, .int .i64 bt, .int .i64 fi, .int .i64 la, .int .i64 wo] 53)).alloc (.cells #[.int .i64 0, .slice none 0 0, .slice none 0 0] 25)).alloc (.cells #[.int .i64 0, .int .i64 0, .int .i64 0, .int .i64 0, .int .i64 0] 53) := ⟨_, rfl⟩
  have BS : Blk U w.heap.size 25 #[.int .i64 k, .slice A nw c, .slice A' n c'] := by rw [hU]; exact (((Blk.new _ _ _).alloc _).alloc _).alloc _
  have BI : Blk U (w.heap.size + 1) 53 #[.int .i64 sq, .int .i64 bt, .int .i64 fi, .int .i64 la, .int .i64 wo] := by rw [hU]; exact ((Blk.newAt _ _ _ _ (by simp)).alloc _).alloc _
  have BR : Blk U (w.heap.size + 2) 25 #[.int .i64 0, .slice none 0 0, .slice none 0 0] := by rw [hU]; exact (Blk.newAt _ _ _ _ (by simp)).alloc _
  have BQ : Blk U (w.heap.size + 3) 53 #[.int .i64 0, .int .i64 0, .int .i64 0, .int .i64 0, .int .i64 0] := by rw [hU]; exact Blk.newAt _ _ _ _ (by simp)
  have HBU : Hid (Below w.heap.size w U) := by rw [hU]; exact ((((Below.refl _ _).alloc (Nat.le_refl _) _).alloc (by simp) _).alloc (by simp; omega) _).alloc (by simp; omega) _
  have HU := Lib.hid hU
  have p0 := BS.cell 0
  have p1 := BS.cell 1
  have p2 := BS.cell 2
  have q0 := BI.cell 0
  have q1 := BI.cell 1
  have q2 := BI.cell 2
  have q3 := BI.cell 3
  have q4 := BI.cell 4
  simp at p0 p1 p2 q0 q1 q2 q3 q4
  clear hA hT hv hU hnw
  go_enter Try.func45, Try.ntmps45
  go_wp2_with fail
  rw [← HU.out]
  refine (incValid_any k A A' nw c n c' wd F sq bt fi la wo U (HA.out.next HBU.out) (HT.out.next HBU.out) HV.out).mono ?_
  rintro e U1 ⟨b, rfl, hF, hb1⟩
  have BS1 := BS.next hb1
  have BI1 := BI.next hb1
  have BR1 := BR.next hb1
  have BQ1 := BQ.next hb1
  have HB1 : Hid (Below w.heap.size w U1) := below_next HBU.out (Nat.le_refl _) hb1
  have HF := Lib.hid hF
  clear p0 p1 p2 q0 q1 q2 q3 q4 hF hb1
  rcases b with _ | _
  · have tok : True := trivial
    have r0 := BR1.cell 0
    have r1 := BR1.cell 1
    have r2 := BR1.cell 2
    have rf0 := BR1.frozen 0
    have rf1 := BR1.frozen 1
    have rf2 := BR1.frozen 2
    have t0 := BQ1.cell 0
    have t1 := BQ1.cell 1
    have t2 := BQ1.cell 2
    have t3 := BQ1.cell 3
    have t4 := BQ1.cell 4
    have tf0 := BQ1.frozen 0
    have tf1 := BQ1.frozen 1
    have tf2 := BQ1.frozen 2
    have tf3 := BQ1.frozen 3
    have tf4 := BQ1.frozen 4
    simp at r0 r1 r2 t0 t1 t2 t3 t4
    go_wp2
    refine bodyPost_ret (v := .tuple #[.agg #[.int .i64 0, .slice none 0 0, .slice none 0 0], .agg #[.int .i64 0, .int .i64 0, .int .i64 0, .int .i64 0, .int .i64 0], .int .i64 0, .int .i64 1]) (by simp [results, Try.results45, go_sem, r0, r1, r2, t0, t1, t2, t3, t4]) rfl ⟨_, _, _, _, _, _, _, _, _, _, rfl, ?_, ⟨_, _, _, _, _, _, _, rfl, rfl, rfl⟩, fun h => absurd h (by decide)⟩
    exact below_put8 HB1.out (by omega) (by omega) _ _ _ _ _ _ _ _
  · have hF := HF.out rfl
    obtain ⟨f1, f2, f3, f4, W, rfl, f6, f7, f8⟩ := hF
    have HFP : Hid (FitsP k n nw F sq bt fi la W) := ⟨f1, f2, f3, f4, W, rfl, f6, f7, f8⟩
    clear f7 f8 HF
    have p0 := BS1.cell 0
    have p1 := BS1.cell 1
    have p2 := BS1.cell 2
    have q0 := BI1.cell 0
    have q1 := BI1.cell 1
    have q2 := BI1.cell 2
    have q3 := BI1.cell 3
    have q4 := BI1.cell 4
    simp at p0 p1 p2 q0 q1 q2 q3 q4
    have wz : w.heap.size + 3 < U1.heap.size := BQ1.lt
    have HAfter : ∀ wx, Below U1.heap.size U1 wx → Hid (AllocMid k A A' nw c n c' sq bt fi la W w wx) := fun wx hb => ⟨BS1.next hb, BI1.next hb, BR1.next hb, BQ1.next hb, below_next HB1.out (Nat.le_refl _) hb⟩
    have HAF := Lib.hid HAfter
    clear HAfter
    go_upto_region 3 with fail
    go_cut [36] (fun s wx => (∃ b2, s = .bool b2) ∧ AllocMid k A A' nw c n c' sq bt fi la W w wx)
    case first =>
      by_cases hW : W = 0
      · subst hW
        go_wp2_with fail
        refine (owns_any k (.slice A nw c) A' n c' F sq U1 (HT.out.next HB1.out) (by omega)).mono ?_
        rintro e U2 ⟨b2, rfl, hb2⟩
        have HAFX := HAF.out U2 hb2
        go_wp2
        go_meet
        exact ⟨⟨_, rfl⟩, HAFX.out⟩
      · have hWb : ((W : Int) == 0) = false := by simp; omega
        have HAFX := HAF.out U1 (Below.refl _ _)
        go_wp2
        go_meet
        exact ⟨⟨_, rfl⟩, HAFX.out⟩
    case rest =>
      obtain ⟨⟨b2, rfl⟩, BS2, BI2, BR2, BQ2, hB2⟩ := hcut
      have HB2 := Lib.hid hB2
      clear hB2 p0 p1 p2 q0 q1 q2 q3 q4
      rcases b2 with _ | _
      · have p0 := BS2.cell 0
        have p1 := BS2.cell 1
        have p2 := BS2.cell 2
        simp at p0 p1 p2
        go_wp2_with fail
        refine (copy_any k A A' nw c n c' wd F wc (HA.out.next HB2.out) (HT.out.next HB2.out) (by omega) (by omega) (by omega)).mono ?_
        rintro e U3 ⟨A1, c1, g, c2, rfl, ho, ht, hb3⟩
        have BI3 := BI2.next hb3
        have BR3 := BR2.next hb3
        have BQ3 := BQ2.next hb3
        have HB3 : Hid (Below w.heap.size w U3) := below_next HB2.out (Nat.le_refl _) hb3
        have HO := Lib.hid ho
        have HTB := Lib.hid ht
        have HGB : Hid (wc.heap.size ≤ g ∧ g < U3.heap.size) := ht.bounds
        have zwc : w.heap.size + 3 < wc.heap.size := BQ2.lt
        clear ho ht hb3 p0 p1 p2
        obtain ⟨X, hX⟩ : ∃ X, X = U3.alloc (.cells #[.int .i64 k, .slice A1 nw c1, .slice (some ⟨g, 0, none⟩) n c2] 25) := ⟨_, rfl⟩
        have BO : Blk X U3.heap.size 25 #[.int .i64 k, .slice A1 nw c1, .slice (some ⟨g, 0, none⟩) n c2] := by rw [hX]; exact Blk.new _ _ _
        have hbx : Below U3.heap.size U3 X := by rw [hX]; exact (Below.refl _ _).alloc (Nat.le_refl _) _
        have BI4 := BI3.next hbx
        have BR4 := BR3.next hbx
        have BQ4 := BQ3.next hbx
        have HB4 : Hid (Below w.heap.size w X) := below_next HB3.out (Nat.le_refl _) hbx
        have HO4 := Lib.hid (HO.out.below hbx)
        have HT4 := Lib.hid (HTB.out.below hbx)
        have HX := Lib.hid hX
        have o0 := BO.cell 0
        have o1 := BO.cell 1
        have o2 := BO.cell 2
        have q0 := BI3.cell 0
        have q1 := BI3.cell 1
        have q2 := BI3.cell 2
        have q3 := BI3.cell 3
        have q4 := BI3.cell 4
        have zi3 : w.heap.size + 1 < U3.heap.size := BI3.lt
        simp at o0 o1 o2 q0 q1 q2 q3 q4
        clear hX hbx
        go_wp2_with fail
        rw [← HX.out]
        refine (grow_pos k A1 nw c1 n c2 g wc.heap.size F sq bt fi la W d X HT4.out (by omega) HV.out.fv (by omega) (by omega) HNW.out HFP.out hd).mono ?_
        rintro e X5 ⟨i0, i1, fi5, la5, wo5, a5, err5, F5, rfl, ht5, hg5, hr5⟩
        obtain ⟨gb1, gb2⟩ := HGB.out
        have BO5 := BO.turn hg5 (by omega)
        have BR5 := BR4.turn hg5 (by omega)
        have BQ5 := BQ4.turn hg5 (by omega)
        have HO5 := Lib.hid (HO4.out.beside HT4.out hg5)
        have HB5 : Hid (Below w.heap.size w X5) := HB4.out.trans (turn_under hg5 (by omega) HB4.out.size)
        have HT5 := Lib.hid ht5
        have HR5 := Lib.hid hr5
        clear ht5 hg5 hr5 o0 o1 o2 q0 q1 q2 q3 q4 BO BR4 BQ4 BR3 BQ3 BR2 BQ2
        have zX : w.heap.size + 3 < X5.heap.size := BQ5.lt
        have zO : U3.heap.size < X5.heap.size := BO5.lt
        have zX2 : w.heap.size + 2 < X5.heap.size := BR5.lt
        have zX2' : w.heap.size + 1 + 1 < X5.heap.size := BR5.lt
        have zX3' : w.heap.size + 1 + 1 + 1 < X5.heap.size := BQ5.lt
        have r0 := BR5.cell 0
        have r1 := BR5.cell 1
        have r2 := BR5.cell 2
        have rf0 := BR5.frozen 0
        have rf1 := BR5.frozen 1
        have rf2 := BR5.frozen 2
        have t0 := BQ5.cell 0
        have t1 := BQ5.cell 1
        have t2 := BQ5.cell 2
        have t3 := BQ5.cell 3
        have t4 := BQ5.cell 4
        have tf0 := BQ5.frozen 0
        have tf1 := BQ5.frozen 1
        have tf2 := BQ5.frozen 2
        have tf3 := BQ5.frozen 3
        have tf4 := BQ5.frozen 4
        simp at r0 r1 r2 t0 t1 t2 t3 t4
        by_cases he : err5 = 0
        · subst he
          have hr := HR5.out rfl
          have o0 := BO5.cell 0
          have o1 := BO5.cell 1
          have o2 := BO5.cell 2
          simp at o0 o1 o2
          obtain ⟨⟨v1, v2, v3, v4, v5, v6⟩, ha, hi0, hi1, hwo⟩ := hr
          have hst : stB (bt * 4294967296 + sq) sq = true := by
            refine decide_eq_true ⟨f1, f2, ?_⟩
            rcases (show bt = 0 ∨ bt = 1 ∨ bt = 2 ∨ bt = 3 by omega) with h | h | h | h <;> subst h <;> omega
          have hval : ValidP k nw wd n F5 := ValidP.mk_ HV.out.1 HV.out.2.1 HV.out.2.2.1 v1 (HV.out.zr.mono (fun f _ h => v3 f h))
          have hcov := ceilV_cover (W + d) k
          have FIN : ∀ w', Own w' wc.heap.size A1 nw c1 wd → OwnT w' wc.heap.size (some ⟨g, 0, none⟩) n c2 F5 → Below w.heap.size w w' →
              AllocOf k nw n wd d F sq bt W w (.returned (.tuple #[.agg #[.int .i64 k, .slice A1 nw c1, .slice (some ⟨g, 0, none⟩) n c2], .agg #[.int .i64 i0, .int .i64 i1, .int .i64 fi5, .int .i64 la5, .int .i64 wo5], .int .i64 a5, .int .i64 0])) w' :=
            fun w' x1 x2 x3 => ⟨_, _, _, _, _, _, _, _, _, _, rfl, x3, ⟨_, _, _, _, _, _, _, rfl, rfl, rfl⟩, fun _ => ⟨A1, c1, g, c2, F5, fi5, la5, sq, _, _, W, rfl, rfl, rfl, x1.lower (by omega), x2.lower (by omega), hval, v2, hst, ha, hcov, v4, hi0, hi1, rfl, rfl, hwo, rfl, rfl, rfl, rfl, v5, v6⟩⟩
          have HFIN := Lib.hid FIN
          clear FIN v1 v2 v3 v4 v5 v6 hi0 hi1 hwo ha hst hval hcov
          go_wp2
          go_region
          go_wp2
          refine bodyPost_ret (v := .tuple #[.agg #[.int .i64 k, .slice A1 nw c1, .slice (some ⟨g, 0, none⟩) n c2], .agg #[.int .i64 i0, .int .i64 i1, .int .i64 fi5, .int .i64 la5, .int .i64 wo5], .int .i64 a5, .int .i64 0]) (by simp [results, Try.results45, go_sem, r0, r1, r2, t0, t1, t2, t3, t4, zX2', zX3']) rfl (HFIN.out _ ?_ ?_ ?_)
          · exact ((HO5.out.put8 (by omega) (by omega) _ _ _ _ _ _ _ _).below ((Below.refl _ _).alloc (Nat.le_refl _) _)).drew
          · exact ((HT5.out.put8 (by omega) (by omega) _ _ _ _ _ _ _ _).below ((Below.refl _ _).alloc (Nat.le_refl _) _)).drew
          · exact ((below_put8 HB5.out (by omega) (by omega) _ _ _ _ _ _ _ _).alloc (by simpa using HB5.out.size) _).drew
        · have hb0 : (err5 == 0) = false := by simpa using he
          have hb1 : (err5 != 0) = true := by simpa using he
          have HE := Lib.hid he
          clear he
          go_wp2
          refine bodyPost_ret (v := .tuple #[.agg #[.int .i64 0, .slice none 0 0, .slice none 0 0], .agg #[.int .i64 0, .int .i64 0, .int .i64 0, .int .i64 0, .int .i64 0], .int .i64 0, .int .i64 err5]) (by simp [results, Try.results45, go_sem, r0, r1, r2, t0, t1, t2, t3, t4, zX2', zX3']) rfl ⟨_, _, _, _, _, _, _, _, _, _, rfl, ?_, ⟨_, _, _, _, _, _, _, rfl, rfl, rfl⟩, fun h => absurd h HE.out⟩
          exact (below_put8 HB5.out (by omega) (by omega) _ _ _ _ _ _ _ _).alloc (by simpa using HB5.out.size) _
      · have tok : True := trivial
        have r0 := BR2.cell 0
        have r1 := BR2.cell 1
        have r2 := BR2.cell 2
        have rf0 := BR2.frozen 0
        have rf1 := BR2.frozen 1
        have rf2 := BR2.frozen 2
        have t0 := BQ2.cell 0
        have t1 := BQ2.cell 1
        have t2 := BQ2.cell 2
        have t3 := BQ2.cell 3
        have t4 := BQ2.cell 4
        have tf0 := BQ2.frozen 0
        have tf1 := BQ2.frozen 1
        have tf2 := BQ2.frozen 2
        have tf3 := BQ2.frozen 3
        have tf4 := BQ2.frozen 4
        simp at r0 r1 r2 t0 t1 t2 t3 t4
        go_wp2
        refine bodyPost_ret (v := .tuple #[.agg #[.int .i64 0, .slice none 0 0, .slice none 0 0], .agg #[.int .i64 0, .int .i64 0, .int .i64 0, .int .i64 0, .int .i64 0], .int .i64 0, .int .i64 5]) (by simp [results, Try.results45, go_sem, r0, r1, r2, t0, t1, t2, t3, t4]) rfl ⟨_, _, _, _, _, _, _, _, _, _, rfl, ?_, ⟨_, _, _, _, _, _, _, rfl, rfl, rfl⟩, fun h => absurd h (by decide)⟩
        exact below_put8 HB2.out (by omega) (by omega) _ _ _ _ _ _ _ _
end Go.Proofs.Ytpbcpobbjoopnaa
