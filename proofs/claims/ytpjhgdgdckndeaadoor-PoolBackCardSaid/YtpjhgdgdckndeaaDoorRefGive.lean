/-
  Contract of the reference of layer 4: Give.
-/
import Derived.Test.YtpjhgdgdckndeaaDoorClear
import Derived.Test.YtpjhgdgdckndeaaDoorRefTake
namespace Go.Proofs.YtpjhgdgdckndeaaDoor
open Go.RowKit
set_option maxRecDepth 100000
set_option linter.unusedVariables false

set_option maxHeartbeats 4000000 in
theorem refGive_any (s : Int) (A A' : Option Addr) (nw c n c' : Nat) (wd : Nat → Int) (F : Nat → Fr) (o : Int) (w : World) (hA : Arr w w.heap.size A nw c wd) (hT : Tab w w.heap.size A' n c' F) :
    Calls Tryd.prog 22 #[.agg #[.int .i64 s, .slice A nw c, .slice A' n c'], .int .i64 o] w (GiveOut s nw wd n F o w) := by
  obtain ⟨U, hU⟩ : ∃ U, U = (w.alloc (.cells #[.int .i64 s, .slice A nw c, .slice A' n c'] 26)).alloc (.cells #[.int .i64 0, .slice none 0 0, .slice none 0 0] 26) := ⟨_, rfl⟩
  have BX := Lib.hid (show Blk U w.heap.size 26 #[.int .i64 s, .slice A nw c, .slice A' n c'] by rw [hU]; exact (Blk.new _ _ _).alloc _)
  have BR := Lib.hid (show Blk U (w.heap.size + 1) 26 #[.int .i64 0, .slice none 0 0, .slice none 0 0] by rw [hU]; exact Blk.newAt _ _ _ _ (by simp))
  have hbu : Below w.heap.size w U := by rw [hU]; exact ((Below.refl _ _).alloc (Nat.le_refl _) _).alloc (by simp) _
  have HBU := Lib.hid hbu
  have HU := Lib.hid hU
  have HA := Lib.hid (hA.next hbu)
  have HT := Lib.hid (hT.next hbu)
  clear hA hT hU hbu
  cases hv : validB s nw wd n F with
  | false =>
    have HE := Lib.hid (show (validB s nw wd n F && okO o) = false by rw [hv]; rfl)
    have HV := Lib.hid hv
    clear hv
    go_enter Tryd.func22, Tryd.ntmps22
    go_wp2_with (go_at_call 23; rw [← HU.out]; refine (refValid_any s A A' nw c n c' wd F U HA.out HT.out).mono ?_; rintro e w1 ⟨rfl, hb1⟩; rw [HV.out]; have R := BR.out.next hb1; have r0 := R.cell 0; have r1 := R.cell 1; have r2 := R.cell 2; have f0 := R.frozen 0; have f1 := R.frozen 1; have f2 := R.frozen 2; have rz := R.lt; simp at r0 r1 r2)
    refine bodyPost_ret (v := .tuple #[.agg #[.int .i64 0, .slice none 0 0, .slice none 0 0], .int .i64 0, .int .i64 1]) (by simp [results, Tryd.results22, go_sem, r0, r1, r2]) rfl (give_bad HE.out (below_put3 (below_next HBU.out (Nat.le_refl _) hb1) (by omega) _ _ _))
  | true =>
    have hvp := validB_of hv
    have HV := Lib.hid hv
    by_cases o1 : o < 0
    · have HE := Lib.hid (show (validB s nw wd n F && okO o) = false by rw [okO_no (by omega)]; simp)
      clear hv hvp
      go_enter Tryd.func22, Tryd.ntmps22
      go_wp2_with (go_at_call 23; rw [← HU.out]; refine (refValid_any s A A' nw c n c' wd F U HA.out HT.out).mono ?_; rintro e w1 ⟨rfl, hb1⟩; rw [HV.out]; have R := BR.out.next hb1; have r0 := R.cell 0; have r1 := R.cell 1; have r2 := R.cell 2; have f0 := R.frozen 0; have f1 := R.frozen 1; have f2 := R.frozen 2; have rz := R.lt; simp at r0 r1 r2)
      refine bodyPost_ret (v := .tuple #[.agg #[.int .i64 0, .slice none 0 0, .slice none 0 0], .int .i64 0, .int .i64 1]) (by simp [results, Tryd.results22, go_sem, r0, r1, r2]) rfl (give_bad HE.out (below_put3 (below_next HBU.out (Nat.le_refl _) hb1) (by omega) _ _ _))
    · by_cases o2 : 4294967295 < o
      · have HE := Lib.hid (show (validB s nw wd n F && okO o) = false by rw [okO_no (by omega)]; simp)
        clear hv hvp
        go_enter Tryd.func22, Tryd.ntmps22
        go_wp2_with (go_at_call 23; rw [← HU.out]; refine (refValid_any s A A' nw c n c' wd F U HA.out HT.out).mono ?_; rintro e w1 ⟨rfl, hb1⟩; rw [HV.out]; have R := BR.out.next hb1; have r0 := R.cell 0; have r1 := R.cell 1; have r2 := R.cell 2; have f0 := R.frozen 0; have f1 := R.frozen 1; have f2 := R.frozen 2; have rz := R.lt; simp at r0 r1 r2)
        refine bodyPost_ret (v := .tuple #[.agg #[.int .i64 0, .slice none 0 0, .slice none 0 0], .int .i64 0, .int .i64 1]) (by simp [results, Tryd.results22, go_sem, r0, r1, r2]) rfl (give_bad HE.out (below_put3 (below_next HBU.out (Nat.le_refl _) hb1) (by omega) _ _ _))
      · have HE := Lib.hid (show (validB s nw wd n F && okO o) = true by rw [hv, okO_yes (by omega)]; rfl)
        obtain ⟨n0, n64, w0, w20⟩ := take_bounds hvp
        obtain ⟨k, rfl⟩ : ∃ k : Nat, s = (k : Int) := ⟨s.toNat, by have := shB_yes hvp.1; omega⟩
        have hk8 : k ≤ 8 := by have := shB_yes hvp.1; omega
        have HNW : Hid (nw = n * 2 ^ k) := by have h := hvp.2.2.1; rw [Int.toNat_natCast] at h; exact Lib.hid h
        clear hv hvp
        go_enter Tryd.func22, Tryd.ntmps22
        go_upto_region 4 with (first
          | (go_at_call 23; rw [← HU.out]; refine (refValid_any k A A' nw c n c' wd F U HA.out HT.out).mono ?_; rintro e w1 ⟨rfl, hb1⟩; rw [HV.out]; have X := BX.out.next hb1; have x0 := X.cell 0; have x1 := X.cell 1; have x2 := X.cell 2; have xz := X.lt; simp at x0 x1 x2)
          | (go_at_call 30; refine (copy_any k A A' nw c n c' wd F w1 (HA.out.next hb1) (HT.out.next hb1) (by omega) n0 (by omega)).mono ?_; rintro e w4 ⟨A1, c1, g, c2, rfl, hoA, hoT, hb4⟩))
        obtain ⟨x, rfl, g0, gx, _⟩ := hoA.spot 0 w0 0
        obtain ⟨W, hW⟩ : ∃ W, W = w4.alloc (.cells #[.int .i64 k, .slice (some ⟨x, 0, none⟩) nw c1, .slice (some ⟨g, 0, none⟩) n c2] 26) := ⟨_, rfl⟩
        have hbw : Below w4.heap.size w4 W := by rw [hW]; exact (Below.refl _ _).alloc (Nat.le_refl _) _
        have BO := Lib.hid (show Blk W w4.heap.size 26 #[.int .i64 k, .slice (some ⟨x, 0, none⟩) nw c1, .slice (some ⟨g, 0, none⟩) n c2] by rw [hW]; exact Blk.new _ _ _)
        obtain ⟨g1, g2, _⟩ := hoT.spotAt 0 n0 frFree
        have hb14 := below_next hb1 (Nat.le_refl _) hb4
        have hb1W := below_next hb14 (Nat.le_refl _) hbw
        have zr : w.heap.size + 1 < w1.heap.size := (BR.out.next hb1).lt
        have z4 : w.heap.size + 1 < w4.heap.size := (BR.out.next hb14).lt
        have zw3 : w.heap.size ≤ w1.heap.size := by omega
        have HOA := Lib.hid (hoA.below hbw)
        have HOT := Lib.hid (hoT.below hbw)
        have HRW := Lib.hid (BR.out.next hb1W)
        have HBW := Lib.hid (below_next HBU.out (Nat.le_refl _) hb1W)
        have p0 := BO.out.cell 0
        have p1 := BO.out.cell 1
        have p2 := BO.out.cell 2
        have pz := BO.out.lt
        simp at p0 p1 p2
        have HW := Lib.hid hW
        clear hW hbw hoA hoT
        rw [← HW.out]
        by_cases hc0 : cntP (owB F o) n = 0
        · have HC := Lib.hid hc0
          clear hc0
          go_wp2_with (go_at_call 39; refine (clear_any k x g nw c1 n c2 w1.heap.size wd F o W HOA.out HOT.out hk8 n64 n0 HNW.out).mono ?_; rintro e w5 ⟨rfl, ho5, ht5, hg5⟩; rw [HC.out]; have R := HRW.out.turn2 hg5 (by omega) (by omega); have r0 := R.cell 0; have r1 := R.cell 1; have r2 := R.cell 2; have f0 := R.frozen 0; have f1 := R.frozen 1; have f2 := R.frozen 2; have rz := R.lt; simp at r0 r1 r2)
          refine bodyPost_ret (v := .tuple #[.agg #[.int .i64 0, .slice none 0 0, .slice none 0 0], .int .i64 0, .int .i64 5]) (by simp [results, Tryd.results22, go_sem, r0, r1, r2]) rfl (give_none HE.out HC.out (below_put3 (HBW.out.trans (hg5.below (by omega) (by omega) HBW.out.size)) (by omega) _ _ _))
        · have HC := Lib.hid hc0
          have hcpos : 0 < cntP (owB F o) n := by omega
          have hce : (((cntP (owB F o) n : Nat) : Int) == 0) = false := by simpa using hc0
          clear hc0
          go_upto_region 7 with (go_at_call 39; refine (clear_any k x g nw c1 n c2 w1.heap.size wd F o W HOA.out HOT.out hk8 n64 n0 HNW.out).mono ?_; rintro e w5 ⟨rfl, ho5, ht5, hg5⟩)
          have O5 := BO.out.turn2 hg5 (by omega) (by omega)
          have R5 := HRW.out.turn2 hg5 (by omega) (by omega)
          have o0 := O5.cell 0
          have o1 := O5.cell 1
          have o2 := O5.cell 2
          have oz := O5.lt
          have r0 := R5.cell 0
          have r1 := R5.cell 1
          have r2 := R5.cell 2
          have f0 := R5.frozen 0
          have f1 := R5.frozen 1
          have f2 := R5.frozen 2
          have rz := R5.lt
          simp at r0 r1 r2 o0 o1 o2
          have HA5 := Lib.hid ho5
          have HT5 := Lib.hid ht5
          have HB5 := Lib.hid (HBW.out.trans (hg5.below (show w.heap.size ≤ x by omega) (show w.heap.size ≤ g by omega) HBW.out.size))
          clear ho5 ht5 hg5 O5 R5
          go_wp2
          refine bodyPost_ret (v := .tuple #[.agg #[.int .i64 k, .slice (some ⟨x, 0, none⟩) nw c1, .slice (some ⟨g, 0, none⟩) n c2], .int .i64 (cntP (owB F o) n : Nat), .int .i64 0]) (by simp [results, Tryd.results22, go_sem, r0, r1, r2]) rfl (.inr ⟨give_ok HE.out HC.out, some ⟨x, 0, none⟩, c1, g, c2, rfl, ?_, ?_, ?_⟩)
          · exact (HA5.out.put3 zr _ _ _).lower zw3
          · exact (HT5.out.put3 zr _ _ _).lower zw3
          · exact below_put3 HB5.out (by omega) _ _ _
end Go.Proofs.YtpjhgdgdckndeaaDoor
