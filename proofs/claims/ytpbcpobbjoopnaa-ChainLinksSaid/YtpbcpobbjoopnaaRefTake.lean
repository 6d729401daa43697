/-
  Contract of the reference of layer 4: Take.
-/
import Derived.Test.YtpbcpobbjoopnaaRefp
import Derived.Deep.DeepCutAuto
namespace Go.Proofs.Ytpbcpobbjoopnaa
open Go.RowKit
set_option maxRecDepth 100000
set_option linter.unusedVariables false

theorem okO_no {o : Int} (h : ¬ (0 ≤ o ∧ o ≤ 4294967295)) : okO o = false := decide_eq_false h
theorem okB_no {b : Int} (h : ¬ (0 ≤ b ∧ b < 4)) : okB b = false := decide_eq_false h
theorem okO_yes {o : Int} (h : 0 ≤ o ∧ o ≤ 4294967295) : okO o = true := decide_eq_true h
theorem okB_yes {b : Int} (h : 0 ≤ b ∧ b < 4) : okB b = true := decide_eq_true h
theorem Own.turnT {w w' : World} {base base' nw c n c2 g : Nat} {A : Option Addr} {wd : Nat → Int} {F : Nat → Fr} (h : Own w base A nw c wd) (hT : OwnT w base' (some ⟨g, 0, none⟩) n c2 F) (hg : w.grownBy w' (some g)) : Own w' base A nw c wd := by
  obtain ⟨h1, h2, ⟨rfl, h3⟩ | ⟨y, cur, rfl, hb, hy, hs⟩⟩ := h
  · exact ⟨h1, h2, .inl ⟨rfl, h3⟩⟩
  · exact Own.turn ⟨h1, h2, .inr ⟨y, cur, rfl, hb, hy, hs⟩⟩ hg (own_apart ⟨h1, h2, .inr ⟨y, cur, rfl, hb, hy, hs⟩⟩ hT)
theorem anyB_next {F : Nat → Fr} {o st : Int} {t n : Nat} (ht : t < n) (h : (F t).ow = o ∧ (F t).st ≠ st) : anyB F o st n = true := (anyB_iff F o st n).2 ⟨t, ht, h⟩

set_option maxHeartbeats 4000000 in
theorem refTake_any (s : Int) (A A' : Option Addr) (nw c n c' : Nat) (wd : Nat → Int) (F : Nat → Fr) (o b : Int) (w : World) (hA : Arr w w.heap.size A nw c wd) (hT : Tab w w.heap.size A' n c' F) :
    Calls Try.prog 11 #[.agg #[.int .i64 s, .slice A nw c, .slice A' n c'], .int .i64 o, .int .i64 b] w (TakeOut s nw wd n F o b w) := by
  obtain ⟨U, hU⟩ : ∃ U, U = (w.alloc (.cells #[.int .i64 s, .slice A nw c, .slice A' n c'] 25)).alloc (.cells #[.int .i64 0, .slice none 0 0, .slice none 0 0] 25) := ⟨_, rfl⟩
  have BX := Lib.hid (show Blk U w.heap.size 25 #[.int .i64 s, .slice A nw c, .slice A' n c'] by rw [hU]; exact (Blk.new _ _ _).alloc _)
  have BR := Lib.hid (show Blk U (w.heap.size + 1) 25 #[.int .i64 0, .slice none 0 0, .slice none 0 0] by rw [hU]; exact Blk.newAt _ _ _ _ (by simp))
  have hbu : Below w.heap.size w U := by rw [hU]; exact ((Below.refl _ _).alloc (Nat.le_refl _) _).alloc (by simp) _
  have HBU := Lib.hid hbu
  have HU := Lib.hid hU
  have HA := Lib.hid (hA.next hbu)
  have HT := Lib.hid (hT.next hbu)
  clear hA hT hU hbu
  cases hv : validB s nw wd n F with
  | false =>
    have HE := Lib.hid (show (validB s nw wd n F && okO o && okB b) = false by rw [hv]; rfl)
    have HV := Lib.hid hv
    clear hv
    go_enter Try.func11, Try.ntmps11
    go_wp2_with (go_at_call 28; rw [← HU.out]; refine (refValid_any s A A' nw c n c' wd F U HA.out HT.out).mono ?_; rintro e w1 ⟨rfl, hb1⟩; rw [HV.out]; have R := BR.out.next hb1; have r0 := R.cell 0; have r1 := R.cell 1; have r2 := R.cell 2; have f0 := R.frozen 0; have f1 := R.frozen 1; have f2 := R.frozen 2; have rz := R.lt; simp at r0 r1 r2)
    refine bodyPost_ret (v := .tuple #[.agg #[.int .i64 0, .slice none 0 0, .slice none 0 0], .int .i64 0, .int .i64 1]) (by simp [results, Try.results11, go_sem, r0, r1, r2]) rfl (take_bad HE.out (below_put3 (below_next HBU.out (Nat.le_refl _) hb1) (by omega) _ _ _))
  | true =>
    have hvp := validB_of hv
    have HV := Lib.hid hv
    by_cases o1 : o < 0
    · have HE := Lib.hid (show (validB s nw wd n F && okO o && okB b) = false by rw [okO_no (by omega)]; simp)
      clear hv hvp
      go_enter Try.func11, Try.ntmps11
      go_wp2_with (go_at_call 28; rw [← HU.out]; refine (refValid_any s A A' nw c n c' wd F U HA.out HT.out).mono ?_; rintro e w1 ⟨rfl, hb1⟩; rw [HV.out]; have R := BR.out.next hb1; have r0 := R.cell 0; have r1 := R.cell 1; have r2 := R.cell 2; have f0 := R.frozen 0; have f1 := R.frozen 1; have f2 := R.frozen 2; have rz := R.lt; simp at r0 r1 r2)
      refine bodyPost_ret (v := .tuple #[.agg #[.int .i64 0, .slice none 0 0, .slice none 0 0], .int .i64 0, .int .i64 1]) (by simp [results, Try.results11, go_sem, r0, r1, r2]) rfl (take_bad HE.out (below_put3 (below_next HBU.out (Nat.le_refl _) hb1) (by omega) _ _ _))
    · by_cases o2 : 4294967295 < o
      · have HE := Lib.hid (show (validB s nw wd n F && okO o && okB b) = false by rw [okO_no (by omega)]; simp)
        clear hv hvp
        go_enter Try.func11, Try.ntmps11
        go_wp2_with (go_at_call 28; rw [← HU.out]; refine (refValid_any s A A' nw c n c' wd F U HA.out HT.out).mono ?_; rintro e w1 ⟨rfl, hb1⟩; rw [HV.out]; have R := BR.out.next hb1; have r0 := R.cell 0; have r1 := R.cell 1; have r2 := R.cell 2; have f0 := R.frozen 0; have f1 := R.frozen 1; have f2 := R.frozen 2; have rz := R.lt; simp at r0 r1 r2)
        refine bodyPost_ret (v := .tuple #[.agg #[.int .i64 0, .slice none 0 0, .slice none 0 0], .int .i64 0, .int .i64 1]) (by simp [results, Try.results11, go_sem, r0, r1, r2]) rfl (take_bad HE.out (below_put3 (below_next HBU.out (Nat.le_refl _) hb1) (by omega) _ _ _))
      · by_cases b1 : b < 0
        · have HE := Lib.hid (show (validB s nw wd n F && okO o && okB b) = false by rw [okB_no (by omega)]; simp)
          clear hv hvp
          go_enter Try.func11, Try.ntmps11
          go_wp2_with (go_at_call 28; rw [← HU.out]; refine (refValid_any s A A' nw c n c' wd F U HA.out HT.out).mono ?_; rintro e w1 ⟨rfl, hb1⟩; rw [HV.out]; have R := BR.out.next hb1; have r0 := R.cell 0; have r1 := R.cell 1; have r2 := R.cell 2; have f0 := R.frozen 0; have f1 := R.frozen 1; have f2 := R.frozen 2; have rz := R.lt; simp at r0 r1 r2)
          refine bodyPost_ret (v := .tuple #[.agg #[.int .i64 0, .slice none 0 0, .slice none 0 0], .int .i64 0, .int .i64 1]) (by simp [results, Try.results11, go_sem, r0, r1, r2]) rfl (take_bad HE.out (below_put3 (below_next HBU.out (Nat.le_refl _) hb1) (by omega) _ _ _))
        · by_cases b2 : 4 ≤ b
          · have HE := Lib.hid (show (validB s nw wd n F && okO o && okB b) = false by rw [okB_no (by omega)]; simp)
            clear hv hvp
            go_enter Try.func11, Try.ntmps11
            go_wp2_with (go_at_call 28; rw [← HU.out]; refine (refValid_any s A A' nw c n c' wd F U HA.out HT.out).mono ?_; rintro e w1 ⟨rfl, hb1⟩; rw [HV.out]; have R := BR.out.next hb1; have r0 := R.cell 0; have r1 := R.cell 1; have r2 := R.cell 2; have f0 := R.frozen 0; have f1 := R.frozen 1; have f2 := R.frozen 2; have rz := R.lt; simp at r0 r1 r2)
            refine bodyPost_ret (v := .tuple #[.agg #[.int .i64 0, .slice none 0 0, .slice none 0 0], .int .i64 0, .int .i64 1]) (by simp [results, Try.results11, go_sem, r0, r1, r2]) rfl (take_bad HE.out (below_put3 (below_next HBU.out (Nat.le_refl _) hb1) (by omega) _ _ _))
          · have HE := Lib.hid (show (validB s nw wd n F && okO o && okB b) = true by rw [hv, okO_yes (by omega), okB_yes (by omega)]; rfl)
            obtain ⟨n0, n64, w0, w20⟩ := take_bounds hvp
            have sm : 0 ≤ b * 4294967296 ∧ b * 4294967296 ≤ 12884901888 := by omega
            have HVP := Lib.hid hvp
            clear hv hvp
            go_enter Try.func11, Try.ntmps11
            go_wp2_with (go_at_call 28; rw [← HU.out]; refine (refValid_any s A A' nw c n c' wd F U HA.out HT.out).mono ?_; rintro e w1 ⟨rfl, hb1⟩; rw [HV.out]; have X := BX.out.next hb1; have x0 := X.cell 0; have x1 := X.cell 1; have x2 := X.cell 2; have xz := X.lt; simp at x0 x1 x2)
            have z1 : w.heap.size + 1 < w1.heap.size := (BR.out.next hb1).lt
            go_loopw [10, 36] (fun _ i wr => ∃ t : Nat, t ≤ n ∧ i = .int .i64 t ∧ anyB F o (b * 4294967296 + o) t = false ∧ Below w1.heap.size w1 wr) (fun _ i _ => n - (intOf i).toNat)
            case atStart => exact ⟨0, by omega, rfl, rfl, Below.refl _ _⟩
            case round =>
              obtain ⟨t, ht, rfl, hno, hb⟩ := hrel
              have HNO := Lib.hid hno
              have HB := Lib.hid hb
              have hb1r := below_next hb1 (Nat.le_refl _) hb
              clear hno hb
              by_cases hlt : t < n
              · have hlt2 : 0 ≤ (t : Int) ∧ (t : Int) < n := by omega
                have hTr := HT.out.next hb1r
                obtain ⟨tb, tof, rfl, hbb⟩ := hTr.base_ (by omega)
                obtain ⟨bz, c0, c1, c2⟩ := hTr.cells t hlt
                have HBN : Hid (Below w1.heap.size w1 (wr.alloc (.cells #[.int .i64 (F t).ow, .int .i64 (F t).st, .int .i64 (F t).nx] 64))) := HB.out.alloc HB.out.size _
                have HR := Lib.hid (BR.out.next hb1r)
                obtain ⟨x, hx⟩ : ∃ x, x = (F t).ow := ⟨_, rfl⟩
                obtain ⟨y, hy⟩ : ∃ y, y = (F t).st := ⟨_, rfl⟩
                rw [← hx, ← hy] at HBN
                rw [← hx] at c0
                rw [← hy] at c1
                by_cases e1 : x = o
                · by_cases e2 : y = b * 4294967296 + o
                  · have hb1' : (x == o) = true := by simpa using e1
                    have hb2' : (y != b * 4294967296 + o) = false := by simpa using e2
                    have HS := Lib.hid (show anyB F o (b * 4294967296 + o) (t + 1) = false by simp only [anyB]; rw [HNO.out, ← hy]; simp [e2])
                    clear e1 e2 hx hy hTr
                    go_wp2
                    exact ⟨⟨t + 1, by omega, by go_num, HS.out, HBN.out⟩, by simp [intOf]; omega⟩
                  · have hb1' : (x == o) = true := by simpa using e1
                    have hb2' : (y != b * 4294967296 + o) = true := by simpa using e2
                    have HS := Lib.hid (show anyB F o (b * 4294967296 + o) n = true from anyB_next hlt ⟨by rw [← hx]; exact e1, by rw [← hy]; exact e2⟩)
                    have r0 := HR.out.cell 0
                    have r1 := HR.out.cell 1
                    have r2 := HR.out.cell 2
                    have f0 := HR.out.frozen 0
                    have f1 := HR.out.frozen 1
                    have f2 := HR.out.frozen 2
                    have rz := HR.out.lt
                    simp at r0 r1 r2
                    have HBR := Lib.hid (below_next HBU.out (Nat.le_refl _) hb1r)
                    clear e1 e2 hx hy hTr
                    have hq := below_put3 HBR.out (b := w.heap.size + 1) (by omega) (.int .i64 0) (.slice none 0 0) (.slice none 0 0)
                    go_wp2
                    refine bodyPost_ret (v := .tuple #[.agg #[.int .i64 0, .slice none 0 0, .slice none 0 0], .int .i64 0, .int .i64 5]) (by simp [results, Try.results11, go_sem, r0, r1, r2, rz]) rfl (take_other HE.out HS.out (hq.alloc hq.size _))
                · have hb1' : (x == o) = false := by simpa using e1
                  have HS := Lib.hid (show anyB F o (b * 4294967296 + o) (t + 1) = false by simp only [anyB]; rw [HNO.out, ← hx]; simp [e1])
                  clear e1 hx hy hTr
                  go_wp2
                  exact ⟨⟨t + 1, by omega, by go_num, HS.out, HBN.out⟩, by simp [intOf]; omega⟩
              · obtain rfl : n = t := by omega
                have hlt2 : ¬ (n : Int) < n := by omega
                have X := BX.out.next hb1r
                have x0 := X.cell 0
                have x1 := X.cell 1
                have x2 := X.cell 2
                have xz := X.lt
                simp at x0 x1 x2
                go_upto_region 10 with (go_at_call 29; refine (copy_any s A A' nw c n c' wd F wr (HA.out.next hb1r) (HT.out.next hb1r) (by omega) n0 (by omega)).mono ?_; rintro e w4 ⟨A1, c1, g, c2, rfl, hoA, hoT, hb4⟩)
                obtain ⟨W, hW⟩ : ∃ W, W = w4.alloc (.cells #[.int .i64 s, .slice A1 nw c1, .slice (some ⟨g, 0, none⟩) n c2] 25) := ⟨_, rfl⟩
                have hbw : Below w4.heap.size w4 W := by rw [hW]; exact (Below.refl _ _).alloc (Nat.le_refl _) _
                have BO := Lib.hid (show Blk W w4.heap.size 25 #[.int .i64 s, .slice A1 nw c1, .slice (some ⟨g, 0, none⟩) n c2] by rw [hW]; exact Blk.new _ _ _)
                obtain ⟨g1, g2, _⟩ := hoT.spotAt 0 n0 frFree
                have hb14 := below_next hb1r (Nat.le_refl _) hb4
                have hb1W := below_next hb14 (Nat.le_refl _) hbw
                have R := BR.out.next hb1W
                have zr : w.heap.size + 1 < wr.heap.size := (BR.out.next hb1r).lt
                have z4 : w.heap.size + 1 < w4.heap.size := (BR.out.next hb14).lt
                have zw3 : w.heap.size ≤ wr.heap.size := by omega
                have HOA := Lib.hid (hoA.below hbw)
                have HOT := Lib.hid (hoT.below hbw)
                have HRW := Lib.hid R
                have HBW := Lib.hid (below_next HBU.out (Nat.le_refl _) hb1W)
                have p0 := BO.out.cell 0
                have p1 := BO.out.cell 1
                have p2 := BO.out.cell 2
                have pz := BO.out.lt
                simp at p0 p1 p2
                have HW := Lib.hid hW
                clear hW hbw hoA hoT R
                rw [← HW.out]
                by_cases hc0 : cntP (owB F (-1)) n = 0
                · have HC := Lib.hid hc0
                  clear hc0
                  go_wp2_with (go_at_call 30; refine (liftNone_any s _ (some ⟨g, 0, none⟩) n c2 F o b W HOT.out.tab n64 HC.out).mono ?_; rintro e w5 ⟨rfl, hb5⟩; have R := HRW.out.next hb5; have r0 := R.cell 0; have r1 := R.cell 1; have r2 := R.cell 2; have f0 := R.frozen 0; have f1 := R.frozen 1; have f2 := R.frozen 2; have rz := R.lt; simp at r0 r1 r2)
                  refine bodyPost_ret (v := .tuple #[.agg #[.int .i64 0, .slice none 0 0, .slice none 0 0], .int .i64 0, .int .i64 4]) (by simp [results, Try.results11, go_sem, r0, r1, r2]) rfl (take_full HE.out HNO.out HC.out (below_put3 (below_next HBW.out (Nat.le_refl _) hb5) (by omega) _ _ _))
                · have HC := Lib.hid hc0
                  have HFR := Lib.hid (show 0 < freeN F n by rw [freeN_cnt]; omega)
                  clear hc0
                  go_upto_region 13 with (go_at_call 30; refine (lift_any s _ g n c2 wr.heap.size F o b W HOT.out n64 HFR.out (by omega) (by omega)).mono ?_; rintro e w5 ⟨f, hl, rfl, ht5, hg5⟩; have f0' : ¬ (f : Int) < 0 := by omega)
                  have O5 := BO.out.turn hg5 (by omega)
                  have R5 := HRW.out.turn hg5 (by omega)
                  have o0 := O5.cell 0
                  have o1 := O5.cell 1
                  have o2 := O5.cell 2
                  have oz := O5.lt
                  have r0 := R5.cell 0
                  have r1 := R5.cell 1
                  have r2 := R5.cell 2
                  have f0 := R5.frozen 0
                  have f1 := R5.frozen 1
                  have f2 := R5.frozen 2
                  have rz := R5.lt
                  simp at r0 r1 r2 o0 o1 o2
                  have HA5 := Lib.hid (HOA.out.turnT HOT.out hg5)
                  have HT5 := Lib.hid ht5
                  have HL := Lib.hid hl
                  have HB5 := Lib.hid (HBW.out.trans (turn_under hg5 (show w.heap.size ≤ g by omega) HBW.out.size))
                  clear hl ht5 hg5 O5 R5
                  go_wp2
                  refine bodyPost_ret (v := .tuple #[.agg #[.int .i64 s, .slice A1 nw c1, .slice (some ⟨g, 0, none⟩) n c2], .int .i64 f, .int .i64 0]) (by simp [results, Try.results11, go_sem, r0, r1, r2]) rfl (.inr ⟨take_ok HE.out HNO.out HC.out, f, A1, c1, g, c2, HL.out, rfl, ?_, ?_, ?_⟩)
                  · exact (HA5.out.put3 zr _ _ _).lower zw3
                  · exact (HT5.out.put3 zr _ _ _).lower zw3
                  · exact below_put3 HB5.out (by omega) _ _ _
end Go.Proofs.Ytpbcpobbjoopnaa
