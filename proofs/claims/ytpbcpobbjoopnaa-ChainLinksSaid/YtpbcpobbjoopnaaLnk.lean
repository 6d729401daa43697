/-
  Contract of Link of package chain.
-/
import Derived.Test.YtpbcpobbjoopnaaCanf
namespace Go.Proofs.Ytpbcpobbjoopnaa
open Go.RowKit
set_option maxRecDepth 100000
set_option linter.unusedVariables false

def LnkOut (s : Int) (nw : Nat) (wd : Nat → Int) (n : Nat) (F : Nat → Fr) (last f : Int) (w : World) (e : Ending) (w' : World) : Prop :=
  (∃ x : Int, lnkE s nw wd n F last f = x ∧ x ≠ 0 ∧ e = .returned (.tuple #[zSp, .int .i64 x]) ∧ Below w.heap.size w w') ∨
  (lnkE s nw wd n F last f = 0 ∧ ∃ (A1 : Option Addr) (c1 g c2 : Nat), e = .returned (.tuple #[.agg #[.int .i64 s, .slice A1 nw c1, .slice (some ⟨g, 0, none⟩) n c2], .int .i64 0]) ∧
    Own w' w.heap.size A1 nw c1 wd ∧ OwnT w' w.heap.size (some ⟨g, 0, none⟩) n c2 (link F last.toNat f) ∧ Below w.heap.size w w')
section
variable {s : Int} {nw : Nat} {wd : Nat → Int} {n : Nat} {F : Nat → Fr} {last f : Int} {w w' : World}
theorem lnk_bad (h : validB s nw wd n F = false) (hb : Below w.heap.size w w') : LnkOut s nw wd n F last f w (.returned (.tuple #[zSp, .int .i64 1])) w' :=
  .inl ⟨1, by unfold lnkE; rw [if_pos h], by decide, rfl, hb⟩
theorem lnk_out (h : validB s nw wd n F = true) (h2 : inB n last = false ∨ inB n f = false) (hb : Below w.heap.size w w') : LnkOut s nw wd n F last f w (.returned (.tuple #[zSp, .int .i64 2])) w' :=
  .inl ⟨2, by unfold lnkE; rw [if_neg (by simp [h]), if_pos h2], by decide, rfl, hb⟩
theorem lnk_state {l g : Nat} (h : validB s nw wd n F = true) (hl : l < n) (hg : g < n) (h2 : lnkB F n l g = true) (hb : Below w.heap.size w w') : LnkOut s nw wd n F l g w (.returned (.tuple #[zSp, .int .i64 5])) w' :=
  .inl ⟨5, by unfold lnkE; rw [if_neg (by simp [h]), if_neg (by simp [inB]; omega), Int.toNat_natCast, Int.toNat_natCast, if_pos h2], by decide, rfl, hb⟩
theorem lnk_ok {l g : Nat} (h : validB s nw wd n F = true) (hl : l < n) (hg : g < n) (h2 : lnkB F n l g = false) : lnkE s nw wd n F l g = 0 := by
  unfold lnkE; rw [if_neg (by simp [h]), if_neg (by simp [inB]; omega), Int.toNat_natCast, Int.toNat_natCast, if_neg (by rw [h2]; decide)]
end
theorem link_set {F : Nat → Fr} {l : Nat} {f : Int} : (fun j => if j = l then (⟨(F l).ow, (F l).st, f⟩ : Fr) else F j) = link F l f := rfl

set_option maxHeartbeats 4000000 in
theorem link5_any (s : Int) (A A' : Option Addr) (nw c n c' : Nat) (wd : Nat → Int) (F : Nat → Fr) (last f : Int) (w : World) (hA : Arr w w.heap.size A nw c wd) (hT : Tab w w.heap.size A' n c' F) :
    Calls Try.prog 15 #[.agg #[.int .i64 s, .slice A nw c, .slice A' n c'], .int .i64 last, .int .i64 f] w (LnkOut s nw wd n F last f w) := by
  obtain ⟨U, hU⟩ : ∃ U, U = (w.alloc (.cells #[.int .i64 s, .slice A nw c, .slice A' n c'] 25)).alloc (.cells #[.int .i64 0, .slice none 0 0, .slice none 0 0] 25) := ⟨_, rfl⟩
  have BX := Lib.hid (show Blk U w.heap.size 25 #[.int .i64 s, .slice A nw c, .slice A' n c'] by rw [hU]; exact (Blk.new _ _ _).alloc _)
  have BR := Lib.hid (show Blk U (w.heap.size + 1) 25 #[.int .i64 0, .slice none 0 0, .slice none 0 0] by rw [hU]; exact Blk.newAt _ _ _ _ (by simp))
  have hbu : Below w.heap.size w U := by rw [hU]; exact ((Below.refl _ _).alloc (Nat.le_refl _) _).alloc (by simp) _
  have HBU := Lib.hid hbu
  have HU := Lib.hid hU
  have HA := Lib.hid (hA.next hbu)
  have HT := Lib.hid (hT.next hbu)
  clear hA hT hU hbu
  cases hv : validB s nw wd n F with
  | false =>
    have HV := Lib.hid hv
    clear hv
    go_enter Try.func15, Try.ntmps15
    go_wp2_with (go_at_call 31; rw [← HU.out]; refine (valid_any s A A' nw c n c' wd F U HA.out HT.out).mono ?_; rintro e w1 ⟨rfl, hb1⟩; rw [HV.out]; have R := BR.out.next hb1; have r0 := R.cell 0; have r1 := R.cell 1; have r2 := R.cell 2; have f0 := R.frozen 0; have f1 := R.frozen 1; have f2 := R.frozen 2; have rz := R.lt; simp at r0 r1 r2)
    refine bodyPost_ret (v := .tuple #[.agg #[.int .i64 0, .slice none 0 0, .slice none 0 0], .int .i64 1]) (by simp [results, Try.results15, go_sem, r0, r1, r2]) rfl (lnk_bad HV.out (below_put3 (below_next HBU.out (Nat.le_refl _) hb1) (by omega) _ _ _))
  | true =>
    have hvp := validB_of hv
    have HV := Lib.hid hv
    cases hl : inB n last with
    | false =>
      have HL := Lib.hid hl
      clear hl hv hvp
      go_enter Try.func15, Try.ntmps15
      go_wp2_with (first
        | (go_at_call 31; rw [← HU.out]; refine (valid_any s A A' nw c n c' wd F U HA.out HT.out).mono ?_; rintro e w1 ⟨rfl, hb1⟩; rw [HV.out]; have X := BX.out.next hb1; have x0 := X.cell 0; have x1 := X.cell 1; have x2 := X.cell 2; have xz := X.lt; simp at x0 x1 x2)
        | (go_at_call 32; refine (isFrame5_any s _ A' n c' last _).mono ?_; rintro e w2 ⟨rfl, hb2⟩; rw [HL.out]; have R := BR.out.next (below_next hb1 (Nat.le_refl _) hb2); have r0 := R.cell 0; have r1 := R.cell 1; have r2 := R.cell 2; have f0 := R.frozen 0; have f1 := R.frozen 1; have f2 := R.frozen 2; have rz := R.lt; simp at r0 r1 r2))
      refine bodyPost_ret (v := .tuple #[.agg #[.int .i64 0, .slice none 0 0, .slice none 0 0], .int .i64 2]) (by simp [results, Try.results15, go_sem, r0, r1, r2]) rfl (lnk_out HV.out (.inl HL.out) (below_put3 (below_next HBU.out (Nat.le_refl _) (below_next hb1 (Nat.le_refl _) hb2)) (by omega) _ _ _))
    | true =>
      have HL := Lib.hid hl
      cases hf : inB n f with
      | false =>
        have HF := Lib.hid hf
        clear hl hf hv hvp
        go_enter Try.func15, Try.ntmps15
        go_wp2_with (first
          | (go_at_call 31; rw [← HU.out]; refine (valid_any s A A' nw c n c' wd F U HA.out HT.out).mono ?_; rintro e w1 ⟨rfl, hb1⟩; rw [HV.out]; have X := BX.out.next hb1; have x0 := X.cell 0; have x1 := X.cell 1; have x2 := X.cell 2; have xz := X.lt; simp at x0 x1 x2; have HX := Lib.hid X; have HB1 := Lib.hid hb1; clear hb1 X)
          | (go_at_call 32; (with_reducible show Calls _ _ #[_, .int .i64 last] w1 _); refine (isFrame5_any s _ A' n c' last _).mono ?_; rintro e w2 ⟨rfl, hb2⟩; rw [HL.out]; have Y := HX.out.next hb2; have y0 := Y.cell 0; have y1 := Y.cell 1; have y2 := Y.cell 2; have yz := Y.lt; simp at y0 y1 y2; have HB2 := Lib.hid (below_next HB1.out (Nat.le_refl _) hb2); clear hb2 Y)
          | (go_at_call 32; (with_reducible show Calls _ _ #[_, .int .i64 f] w2 _); refine (isFrame5_any s _ A' n c' f _).mono ?_; rintro e w3 ⟨rfl, hb3⟩; rw [HF.out]; have R := BR.out.next (below_next HB2.out (Nat.le_refl _) hb3); have r0 := R.cell 0; have r1 := R.cell 1; have r2 := R.cell 2; have f0 := R.frozen 0; have f1 := R.frozen 1; have f2 := R.frozen 2; have rz := R.lt; simp at r0 r1 r2))
        refine bodyPost_ret (v := .tuple #[.agg #[.int .i64 0, .slice none 0 0, .slice none 0 0], .int .i64 2]) (by simp [results, Try.results15, go_sem, r0, r1, r2]) rfl (lnk_out HV.out (.inr HF.out) (below_put3 (below_next HBU.out (Nat.le_refl _) (below_next HB2.out (Nat.le_refl _) hb3)) (by omega) _ _ _))
      | true =>
        have HF := Lib.hid hf
        obtain ⟨l, rfl, hln⟩ := inB_nat hl
        obtain ⟨g0, rfl, hgn⟩ := inB_nat hf
        obtain ⟨n0, n64⟩ := nfB_yes hvp.2.1
        obtain ⟨nz, _, w0, w20⟩ := take_bounds hvp
        have HFV := Lib.hid hvp.fv
        cases hlk : lnkB F n l g0 with
        | true =>
          have HK := Lib.hid hlk
          clear hl hf hv hvp hlk
          go_enter Try.func15, Try.ntmps15
          go_wp2_with (first
            | (go_at_call 31; rw [← HU.out]; refine (valid_any s A A' nw c n c' wd F U HA.out HT.out).mono ?_; rintro e w1 ⟨rfl, hb1⟩; rw [HV.out]; have X := BX.out.next hb1; have x0 := X.cell 0; have x1 := X.cell 1; have x2 := X.cell 2; have xz := X.lt; simp at x0 x1 x2; have HX := Lib.hid X; have HB1 := Lib.hid hb1; clear hb1 X)
            | (go_at_call 32; (with_reducible show Calls _ _ #[_, .int .i64 l] w1 _); refine (isFrame5_any s _ A' n c' l _).mono ?_; rintro e w2 ⟨rfl, hb2⟩; rw [HL.out]; have Y := HX.out.next hb2; have y0 := Y.cell 0; have y1 := Y.cell 1; have y2 := Y.cell 2; have yz := Y.lt; simp at y0 y1 y2; have HB2 := Lib.hid (below_next HB1.out (Nat.le_refl _) hb2); have HY := Lib.hid Y; clear hb2 Y)
            | (go_at_call 32; (with_reducible show Calls _ _ #[_, .int .i64 g0] w2 _); refine (isFrame5_any s _ A' n c' g0 _).mono ?_; rintro e w3 ⟨rfl, hb3⟩; rw [HF.out]; have Z := HY.out.next hb3; have z0 := Z.cell 0; have z1 := Z.cell 1; have z2 := Z.cell 2; have zz := Z.lt; simp at z0 z1 z2; have HB3 := Lib.hid (below_next HB2.out (Nat.le_refl _) hb3); clear hb3 Z)
            | (go_at_call 33; refine (canFollow_any s _ A' n c' l g0 F _ (HT.out.next HB3.out) (by omega) HFV.out hln hgn).mono ?_; rintro e w4 ⟨rfl, hb4⟩; rw [HK.out]; have R := BR.out.next (below_next HB3.out (Nat.le_refl _) hb4); have r0 := R.cell 0; have r1 := R.cell 1; have r2 := R.cell 2; have f0 := R.frozen 0; have f1 := R.frozen 1; have f2 := R.frozen 2; have rz := R.lt; simp at r0 r1 r2))
          refine bodyPost_ret (v := .tuple #[.agg #[.int .i64 0, .slice none 0 0, .slice none 0 0], .int .i64 5]) (by simp [results, Try.results15, go_sem, r0, r1, r2]) rfl (lnk_state HV.out hln hgn HK.out (below_put3 (below_next HBU.out (Nat.le_refl _) (below_next HB3.out (Nat.le_refl _) hb4)) (by omega) _ _ _))
        | false =>
          have HK := Lib.hid hlk
          have hl2 : 0 ≤ (l : Int) ∧ (l : Int) < n := by omega
          clear hl hf hv hvp hlk
          go_enter Try.func15, Try.ntmps15
          go_upto_region 8 with (first
            | (go_at_call 31; rw [← HU.out]; refine (valid_any s A A' nw c n c' wd F U HA.out HT.out).mono ?_; rintro e w1 ⟨rfl, hb1⟩; rw [HV.out]; have X := BX.out.next hb1; have x0 := X.cell 0; have x1 := X.cell 1; have x2 := X.cell 2; have xz := X.lt; simp at x0 x1 x2; have HX := Lib.hid X; have HB1 := Lib.hid hb1; clear hb1 X)
            | (go_at_call 32; (with_reducible show Calls _ _ #[_, .int .i64 l] w1 _); refine (isFrame5_any s _ A' n c' l _).mono ?_; rintro e w2 ⟨rfl, hb2⟩; rw [HL.out]; have Y := HX.out.next hb2; have y0 := Y.cell 0; have y1 := Y.cell 1; have y2 := Y.cell 2; have yz := Y.lt; simp at y0 y1 y2; have HB2 := Lib.hid (below_next HB1.out (Nat.le_refl _) hb2); have HY := Lib.hid Y; clear hb2 Y)
            | (go_at_call 32; (with_reducible show Calls _ _ #[_, .int .i64 g0] w2 _); refine (isFrame5_any s _ A' n c' g0 _).mono ?_; rintro e w3 ⟨rfl, hb3⟩; rw [HF.out]; have Z := HY.out.next hb3; have z0 := Z.cell 0; have z1 := Z.cell 1; have z2 := Z.cell 2; have zz := Z.lt; simp at z0 z1 z2; have HB3 := Lib.hid (below_next HB2.out (Nat.le_refl _) hb3); have HZ := Lib.hid Z; clear hb3 Z)
            | (go_at_call 33; refine (canFollow_any s _ A' n c' l g0 F _ (HT.out.next HB3.out) (by omega) HFV.out hln hgn).mono ?_; rintro e w4 ⟨rfl, hb4⟩; rw [HK.out]; have Q := HZ.out.next hb4; have q0 := Q.cell 0; have q1 := Q.cell 1; have q2 := Q.cell 2; have qz := Q.lt; simp at q0 q1 q2; have HB4 := Lib.hid (below_next HB3.out (Nat.le_refl _) hb4); clear hb4 Q)
            | (go_at_call 34; refine (clone5_any s A A' nw c n c' wd F w4 (HA.out.next HB4.out) (HT.out.next HB4.out) (by omega) nz (by omega) w0).mono ?_; rintro e w5 ⟨A1, c1, g, c2, rfl, hoA, hoT, hb5⟩))
          obtain ⟨W, hW⟩ : ∃ W, W = w5.alloc (.cells #[.int .i64 s, .slice A1 nw c1, .slice (some ⟨g, 0, none⟩) n c2] 25) := ⟨_, rfl⟩
          have hbw : Below w5.heap.size w5 W := by rw [hW]; exact (Below.refl _ _).alloc (Nat.le_refl _) _
          have BO : Blk W w5.heap.size 25 #[.int .i64 s, .slice A1 nw c1, .slice (some ⟨g, 0, none⟩) n c2] := by rw [hW]; exact Blk.new _ _ _
          obtain ⟨g1, g2, _⟩ := hoT.spotAt l hln frFree
          obtain ⟨_, g3, k0, k1, k2, f0, f1, f2, _, hnew⟩ := (hoT.below hbw).spotAt l hln ⟨0, 0, g0⟩
          have hb15 := below_next HB4.out (Nat.le_refl _) hb5
          have hb1W := below_next hb15 (Nat.le_refl _) hbw
          have R := BR.out.next hb1W
          have z4 : w.heap.size + 1 < w4.heap.size := (BR.out.next HB4.out).lt
          obtain ⟨V, hV⟩ : ∃ V, V = W.setCell ⟨g, l * 3 + 2, none⟩ (.int .i64 g0) := ⟨_, rfl⟩
          have p2 := BO.cell 2
          simp at p2
          have BO2 : Blk V w5.heap.size 25 #[.int .i64 s, .slice A1 nw c1, .slice (some ⟨g, 0, none⟩) n c2] := by rw [hV]; exact BO.far (p := ⟨g, _, none⟩) (show w5.heap.size ≠ g by omega) _
          have R2 : Blk V (w.heap.size + 1) 25 #[.int .i64 0, .slice none 0 0, .slice none 0 0] := by rw [hV]; exact R.far (p := ⟨g, _, none⟩) (show w.heap.size + 1 ≠ g by omega) _
          have HOV : Hid (Own V w4.heap.size A1 nw c1 wd) := by
            rw [hV]
            have h1 := hoA.below hbw
            rcases A1 with _ | y
            · obtain ⟨h2, h3, h4 | ⟨_, _, h4, _⟩⟩ := h1
              · exact Lib.hid ⟨h2, h3, .inl h4⟩
              · cases h4
            · obtain ⟨h2, h3, h4 | ⟨x, cur, h4, h5⟩⟩ := h1
              · cases h4.1
              · injection h4 with h4
                subst h4
                exact Lib.hid (Own.apart (p := ⟨g, l * 3 + 2, none⟩) ⟨h2, h3, .inr ⟨x, cur, rfl, h5⟩⟩ (own_apart ⟨h2, h3, .inr ⟨x, cur, rfl, h5⟩⟩ (hoT.below hbw)) _)
          have HNEW : Hid (OwnT V w4.heap.size (some ⟨g, 0, none⟩) n c2 (link F l g0)) := by rw [hV]; exact Lib.hid hnew
          have zw4 : w.heap.size ≤ w4.heap.size := by omega
          have hgw : w.heap.size ≤ g := by omega
          have HBV : Hid (Below w.heap.size w V) := by rw [hV]; exact Lib.hid ((below_next HBU.out (Nat.le_refl _) hb1W).setCell (p := ⟨g, _, none⟩) hgw _)
          have HW := Lib.hid hW
          have HVV := Lib.hid hV
          have q0 := BO2.cell 0
          have q1 := BO2.cell 1
          have q2 := BO2.cell 2
          have r0 := R2.cell 0
          have r1 := R2.cell 1
          have r2 := R2.cell 2
          have rf0 := R2.frozen 0
          have rf1 := R2.frozen 1
          have rf2 := R2.frozen 2
          have z2 := BO.lt
          have z3 := BO2.lt
          have z5 := R2.lt
          simp at q0 q1 q2 r0 r1 r2
          clear hW hV hnew hoT hoA hbw
          rw [← HW.out]
          go_upto_region 9 with fail
          rw [← HVV.out]
          go_wp2
          refine bodyPost_ret (v := .tuple #[.agg #[.int .i64 s, .slice A1 nw c1, .slice (some ⟨g, 0, none⟩) n c2], .int .i64 0]) (by simp [results, Try.results15, go_sem, r0, r1, r2]) rfl (.inr ⟨lnk_ok HV.out hln hgn HK.out, A1, c1, g, c2, rfl, ?_, ?_, ?_⟩)
          · exact (HOV.out.put3 z4 _ _ _).lower zw4
          · exact (HNEW.out.put3 z4 _ _ _).lower zw4
          · exact below_put3 HBV.out (by omega) _ _ _
end Go.Proofs.Ytpbcpobbjoopnaa
