/-
  Drop of package bump and of the reference of layer 9 for every raw space and every increment; what Alloc leaves; the laws' own pick, twisted, awake. (Made by mkdrp-s9.py.)
-/
import Derived.Test.YthlkodhkhkdggaaDoorBal
import Derived.Test.YthlkodhkhkdggaaDoorMWords
import Derived.Deep.RegionWith
import Derived.Deep.CutBlock
import Derived.Deep.RegionHeld3
import Derived.Deep.DeepCutAuto
namespace Go.Proofs.YthlkodhkhkdggaaDoor
open Go.RowKit
set_option maxRecDepth 100000
set_option linter.unusedVariables false

/-- The error of Drop. -/
noncomputable def drpE (s : Int) (nw : Nat) (wd : Nat → Int) (n : Nat) (F : Nat → Fr) (sq bt fi la wo : Int) : Int :=
  if incB s nw wd n F sq bt fi la wo = false then 1 else if wo = 0 then 5 else giveE s nw wd n F sq
/-- What Drop answers. -/
def DropX (s : Int) (nw : Nat) (wd : Nat → Int) (n : Nat) (F : Nat → Fr) (sq bt fi la wo : Int) (w : World) (e : Ending) (w' : World) : Prop :=
  (∃ x : Int, drpE s nw wd n F sq bt fi la wo = x ∧ x ≠ 0 ∧ e = .returned (.tuple #[zSp9, .int .i64 x]) ∧ Below w.heap.size w w') ∨
  (drpE s nw wd n F sq bt fi la wo = 0 ∧ ∃ (A1 : Option Addr) (c1 g c2 : Nat), e = .returned (.tuple #[.agg #[.int .i64 s, .slice A1 nw c1, .slice (some ⟨g, 0, none⟩) n c2], .int .i64 0]) ∧
    Own w' w.heap.size A1 nw c1 (giveW wd F sq s.toNat n) ∧ OwnT w' w.heap.size (some ⟨g, 0, none⟩) n c2 (giveF F sq n) ∧ Below w.heap.size w w')
section
variable {s : Int} {nw n : Nat} {wd : Nat → Int} {F : Nat → Fr} {sq bt fi la wo : Int} {w w' : World}
theorem drop_bad (h : incB s nw wd n F sq bt fi la wo = false) (hb : Below w.heap.size w w') : DropX s nw wd n F sq bt fi la wo w (.returned (.tuple #[zSp9, .int .i64 1])) w' :=
  .inl ⟨1, by unfold drpE; rw [if_pos h], by decide, rfl, hb⟩
theorem drop_none (h : incB s nw wd n F sq bt fi la wo = true) (h0 : wo = 0) (hb : Below w.heap.size w w') : DropX s nw wd n F sq bt fi la wo w (.returned (.tuple #[zSp9, .int .i64 5])) w' :=
  .inl ⟨5, by unfold drpE; rw [if_neg (by rw [h]; decide), if_pos h0], by decide, rfl, hb⟩
theorem drpE_give (h : incB s nw wd n F sq bt fi la wo = true) (h0 : wo ≠ 0) : drpE s nw wd n F sq bt fi la wo = giveE s nw wd n F sq := by
  unfold drpE; rw [if_neg (by rw [h]; decide), if_neg h0]
end

set_option maxHeartbeats 4000000 in
theorem drop9_any (s : Int) (A A' : Option Addr) (nw c n c' : Nat) (wd : Nat → Int) (F : Nat → Fr) (sq bt fi la wo : Int) (w : World) (hA : Arr w w.heap.size A nw c wd) (hT : Tab w w.heap.size A' n c' F) (hD : Db w) :
    Calls Tryd.prog 26 #[.agg #[.int .i64 s, .slice A nw c, .slice A' n c'], .agg #[.int .i64 sq, .int .i64 bt, .int .i64 fi, .int .i64 la, .int .i64 wo]] w (DropX s nw wd n F sq bt fi la wo w) := by
  have HA := Lib.hid hA
  have HT := Lib.hid hT
  have HD := Lib.hid hD
  obtain ⟨U, hU⟩ : ∃ U, U = ((w.alloc (.cells #[.int .i64 s, .slice A nw c, .slice A' n c'] 25)).alloc (.cells #[.int .i64 sq, .int .i64 bt, .int .i64 fi, .int .i64 la, .int .i64 wo] 27)).alloc (.cells #[.int .i64 0, .slice none 0 0, .slice none 0 0] 25) := ⟨_, rfl⟩
  have BS : Blk U w.heap.size 25 #[.int .i64 s, .slice A nw c, .slice A' n c'] := by rw [hU]; exact ((Blk.new _ _ _).alloc _).alloc _
  have BI : Blk U (w.heap.size + 1) 27 #[.int .i64 sq, .int .i64 bt, .int .i64 fi, .int .i64 la, .int .i64 wo] := by rw [hU]; exact (Blk.newAt _ _ _ _ (by simp)).alloc _
  have BR : Blk U (w.heap.size + 2) 25 #[.int .i64 0, .slice none 0 0, .slice none 0 0] := by rw [hU]; exact Blk.newAt _ _ _ _ (by simp)
  have HBU : Hid (Below w.heap.size w U) := by rw [hU]; exact (((Below.refl _ _).alloc (Nat.le_refl _) _).alloc (by simp) _).alloc (by simp; omega) _
  have HU := Lib.hid hU
  have p0 := BS.cell 0
  have p1 := BS.cell 1
  have p2 := BS.cell 2
  have q0 := BI.cell 0
  have q1 := BI.cell 1
  have q2 := BI.cell 2
  have q3 := BI.cell 3
  have q4 := BI.cell 4
  simp at p0 p1 p2 q0 q1 q2 q3 q4
  clear hA hT hU hD
  obtain ⟨b, hb⟩ : ∃ b, b = incB s nw wd n F sq bt fi la wo := ⟨_, rfl⟩
  have HBD := Lib.hid hb
  clear hb
  go_enter Tryd.func26, Tryd.ntmps26
  go_wp2_with fail
  rw [← HU.out]
  refine (inc9_any s A A' nw c n c' wd F sq bt fi la wo U (HA.out.next HBU.out) (HT.out.next HBU.out)).mono ?_
  rintro e U1 ⟨rfl, hb1⟩
  rw [← HBD.out]
  have BS1 := BS.next hb1
  have BI1 := BI.next hb1
  have BR1 := BR.next hb1
  have HB1 : Hid (Below w.heap.size w U1) := below_next HBU.out (Nat.le_refl _) hb1
  clear p0 p1 p2 q0 q1 q2 q3 q4 hb1
  have zz : w.heap.size + 2 < U1.heap.size := BR1.lt
  rcases b with _ | _
  · have FIN := Lib.hid (fun W' (h : Below w.heap.size w W') => drop_bad HBD.out.symm h)
    have r0 := BR1.cell 0
    have r1 := BR1.cell 1
    have r2 := BR1.cell 2
    have rf0 := BR1.frozen 0
    have rf1 := BR1.frozen 1
    have rf2 := BR1.frozen 2
    simp at r0 r1 r2
    clear BS1 BI1 BR1
    go_wp2
    refine bodyPost_ret (v := .tuple #[zSp9, .int .i64 1]) (by simp [results, Tryd.results26, go_sem, r0, r1, r2]) rfl (FIN.out _ ?_)
    exact below_put3 HB1.out (by omega) _ _ _
  · obtain ⟨hv, hfq⟩ := incB_yes HBD.out.symm
    have p0 := BS1.cell 0
    have p1 := BS1.cell 1
    have p2 := BS1.cell 2
    have q0 := BI1.cell 0
    have q1 := BI1.cell 1
    have q2 := BI1.cell 2
    have q3 := BI1.cell 3
    have q4 := BI1.cell 4
    simp at p0 p1 p2 q0 q1 q2 q3 q4
    by_cases h0 : wo = 0
    · have FIN := Lib.hid (fun W' (h : Below w.heap.size w W') => drop_none HBD.out.symm h0 h)
      subst h0
      obtain ⟨hf1, hl1⟩ : fi = -1 ∧ la = -1 := (fits_zero (fits_perm hfq)).1 hfq
      subst hf1 hl1
      have r0 := BR1.cell 0
      have r1 := BR1.cell 1
      have r2 := BR1.cell 2
      have rf0 := BR1.frozen 0
      have rf1 := BR1.frozen 1
      have rf2 := BR1.frozen 2
      simp at r0 r1 r2
      clear BS1 BI1 BR1 hv hfq
      go_wp2
      refine bodyPost_ret (v := .tuple #[zSp9, .int .i64 5]) (by simp [results, Tryd.results26, go_sem, r0, r1, r2]) rfl (FIN.out _ ?_)
      exact below_put3 HB1.out (by omega) _ _ _
    · have HDE := Lib.hid (drpE_give HBD.out.symm h0)
      have hw0 : 0 < wo := by obtain ⟨_, _, _, _, W, hW, _⟩ := hfq.1; omega
      obtain ⟨p, hfp, hp, _⟩ := fits_first hfq hw0
      subst hfp
      have hpm : ((p : Int) == -1) = false := by simp
      have h0b : (wo == 0) = false := by simpa using h0
      clear BS1 BI1 hv hfq h0
      go_wp2_with fail
      refine (give_any s A A' nw c n c' wd F sq U1 (HA.out.next HB1.out) (HT.out.next HB1.out) (HD.out.next HB1.out)).mono ?_
      intro e U2 hg
      rcases hg with ⟨x, h1, h2, rfl, hb2⟩ | ⟨h1, A1, c1, g, c2, rfl, ho, ht, hb2⟩
      · unfold zSp
        have BR2 := BR1.next hb2
        have HB2 : Hid (Below w.heap.size w U2) := below_next HB1.out (Nat.le_refl _) hb2
        have HE := Lib.hid (show drpE s nw wd n F sq bt p la wo = x from HDE.out.trans h1)
        have HX0 := Lib.hid h2
        have FINX := Lib.hid (show ∀ W', Below w.heap.size w W' → DropX s nw wd n F sq bt p la wo w (.returned (.tuple #[zSp9, .int .i64 x])) W' from fun W' h => .inl ⟨x, HE.out, HX0.out, rfl, h⟩)
        have r0 := BR2.cell 0
        have r1 := BR2.cell 1
        have r2 := BR2.cell 2
        have rf0 := BR2.frozen 0
        have rf1 := BR2.frozen 1
        have rf2 := BR2.frozen 2
        simp at r0 r1 r2
        have zr : w.heap.size + 2 < U2.heap.size := BR2.lt
        have zr2 : w.heap.size + 1 + 1 < U2.heap.size := BR2.lt
        clear p0 p1 p2 q0 q1 q2 q3 q4 h1 h2 hb2 BR1 BR2
        go_wp2
        refine bodyPost_ret (v := .tuple #[zSp9, .int .i64 x]) (by simp [results, Tryd.results26, go_sem, r0, r1, r2, zr2]) rfl (FINX.out _ ?_)
        exact below_alloc9 (below_put3 HB2.out (show w.heap.size ≤ w.heap.size + 1 + 1 by omega) _ _ _) _
      · have BR2 := BR1.next hb2
        have HB2 : Hid (Below w.heap.size w U2) := below_next HB1.out (Nat.le_refl _) hb2
        have HE := Lib.hid (show drpE s nw wd n F sq bt p la wo = 0 from HDE.out.trans h1)
        have HO := Lib.hid ho
        have HTT := Lib.hid ht
        have r0 := BR2.cell 0
        have r1 := BR2.cell 1
        have r2 := BR2.cell 2
        have rf0 := BR2.frozen 0
        have rf1 := BR2.frozen 1
        have rf2 := BR2.frozen 2
        simp at r0 r1 r2
        have zr : w.heap.size + 2 < U2.heap.size := BR2.lt
        have zr2 : w.heap.size + 1 + 1 < U2.heap.size := BR2.lt
        have zs1 := HB1.out.size
        clear p0 p1 p2 q0 q1 q2 q3 q4 h1 hb2 ho ht BR1 BR2
        go_wp2
        refine bodyPost_ret (v := .tuple #[.agg #[.int .i64 s, .slice A1 nw c1, .slice (some ⟨g, 0, none⟩) n c2], .int .i64 0]) (by simp [results, Tryd.results26, go_sem, r0, r1, r2, zr2]) rfl (.inr ⟨HE.out, A1, c1, g, c2, rfl, ?_, ?_, ?_⟩)
        · exact ((HO.out.put3 (show w.heap.size + 1 + 1 < U1.heap.size by omega) _ _ _).alloc9 _).lower zs1
        · exact ((HTT.out.put3 (show w.heap.size + 1 + 1 < U1.heap.size by omega) _ _ _).alloc9 _).lower zs1
        · exact below_alloc9 (below_put3 HB2.out (show w.heap.size ≤ w.heap.size + 1 + 1 by omega) _ _ _) _

set_option maxHeartbeats 4000000 in
theorem refDrop9_any (s : Int) (A A' : Option Addr) (nw c n c' : Nat) (wd : Nat → Int) (F : Nat → Fr) (sq bt fi la wo : Int) (w : World) (hA : Arr w w.heap.size A nw c wd) (hT : Tab w w.heap.size A' n c' F) :
    Calls Tryd.prog 27 #[.agg #[.int .i64 s, .slice A nw c, .slice A' n c'], .agg #[.int .i64 sq, .int .i64 bt, .int .i64 fi, .int .i64 la, .int .i64 wo]] w (DropX s nw wd n F sq bt fi la wo w) := by
  have HA := Lib.hid hA
  have HT := Lib.hid hT
  obtain ⟨U, hU⟩ : ∃ U, U = ((w.alloc (.cells #[.int .i64 s, .slice A nw c, .slice A' n c'] 25)).alloc (.cells #[.int .i64 sq, .int .i64 bt, .int .i64 fi, .int .i64 la, .int .i64 wo] 27)).alloc (.cells #[.int .i64 0, .slice none 0 0, .slice none 0 0] 25) := ⟨_, rfl⟩
  have BS : Blk U w.heap.size 25 #[.int .i64 s, .slice A nw c, .slice A' n c'] := by rw [hU]; exact ((Blk.new _ _ _).alloc _).alloc _
  have BI : Blk U (w.heap.size + 1) 27 #[.int .i64 sq, .int .i64 bt, .int .i64 fi, .int .i64 la, .int .i64 wo] := by rw [hU]; exact (Blk.newAt _ _ _ _ (by simp)).alloc _
  have BR : Blk U (w.heap.size + 2) 25 #[.int .i64 0, .slice none 0 0, .slice none 0 0] := by rw [hU]; exact Blk.newAt _ _ _ _ (by simp)
  have HBU : Hid (Below w.heap.size w U) := by rw [hU]; exact (((Below.refl _ _).alloc (Nat.le_refl _) _).alloc (by simp) _).alloc (by simp; omega) _
  have HU := Lib.hid hU
  have p0 := BS.cell 0
  have p1 := BS.cell 1
  have p2 := BS.cell 2
  have q0 := BI.cell 0
  have q1 := BI.cell 1
  have q2 := BI.cell 2
  have q3 := BI.cell 3
  have q4 := BI.cell 4
  simp at p0 p1 p2 q0 q1 q2 q3 q4
  clear hA hT hU
  obtain ⟨b, hb⟩ : ∃ b, b = incB s nw wd n F sq bt fi la wo := ⟨_, rfl⟩
  have HBD := Lib.hid hb
  clear hb
  go_enter Tryd.func27, Tryd.ntmps27
  go_wp2_with fail
  rw [← HU.out]
  refine (refInc_any s A A' nw c n c' wd F sq bt fi la wo U (HA.out.next HBU.out) (HT.out.next HBU.out)).mono ?_
  rintro e U1 ⟨rfl, hb1⟩
  rw [← HBD.out]
  have BS1 := BS.next hb1
  have BI1 := BI.next hb1
  have BR1 := BR.next hb1
  have HB1 : Hid (Below w.heap.size w U1) := below_next HBU.out (Nat.le_refl _) hb1
  clear p0 p1 p2 q0 q1 q2 q3 q4 hb1
  have zz : w.heap.size + 2 < U1.heap.size := BR1.lt
  rcases b with _ | _
  · have FIN := Lib.hid (fun W' (h : Below w.heap.size w W') => drop_bad HBD.out.symm h)
    have r0 := BR1.cell 0
    have r1 := BR1.cell 1
    have r2 := BR1.cell 2
    have rf0 := BR1.frozen 0
    have rf1 := BR1.frozen 1
    have rf2 := BR1.frozen 2
    simp at r0 r1 r2
    clear BS1 BI1 BR1
    go_wp2
    refine bodyPost_ret (v := .tuple #[zSp9, .int .i64 1]) (by simp [results, Tryd.results27, go_sem, r0, r1, r2]) rfl (FIN.out _ ?_)
    exact below_put3 HB1.out (by omega) _ _ _
  · obtain ⟨hv, hfq⟩ := incB_yes HBD.out.symm
    have p0 := BS1.cell 0
    have p1 := BS1.cell 1
    have p2 := BS1.cell 2
    have q0 := BI1.cell 0
    have q1 := BI1.cell 1
    have q2 := BI1.cell 2
    have q3 := BI1.cell 3
    have q4 := BI1.cell 4
    simp at p0 p1 p2 q0 q1 q2 q3 q4
    by_cases h0 : wo = 0
    · have FIN := Lib.hid (fun W' (h : Below w.heap.size w W') => drop_none HBD.out.symm h0 h)
      subst h0
      obtain ⟨hf1, hl1⟩ : fi = -1 ∧ la = -1 := (fits_zero (fits_perm hfq)).1 hfq
      subst hf1 hl1
      have r0 := BR1.cell 0
      have r1 := BR1.cell 1
      have r2 := BR1.cell 2
      have rf0 := BR1.frozen 0
      have rf1 := BR1.frozen 1
      have rf2 := BR1.frozen 2
      simp at r0 r1 r2
      clear BS1 BI1 BR1 hv hfq
      go_wp2
      refine bodyPost_ret (v := .tuple #[zSp9, .int .i64 5]) (by simp [results, Tryd.results27, go_sem, r0, r1, r2]) rfl (FIN.out _ ?_)
      exact below_put3 HB1.out (by omega) _ _ _
    · have HDE := Lib.hid (drpE_give HBD.out.symm h0)
      have hw0 : 0 < wo := by obtain ⟨_, _, _, _, W, hW, _⟩ := hfq.1; omega
      obtain ⟨p, hfp, hp, _⟩ := fits_first hfq hw0
      subst hfp
      have hpm : ((p : Int) == -1) = false := by simp
      have h0b : (wo == 0) = false := by simpa using h0
      clear BS1 BI1 hv hfq h0
      go_wp2_with fail
      refine (refGive_any s A A' nw c n c' wd F sq U1 (HA.out.next HB1.out) (HT.out.next HB1.out)).mono ?_
      intro e U2 hg
      rcases hg with ⟨x, h1, h2, rfl, hb2⟩ | ⟨h1, A1, c1, g, c2, rfl, ho, ht, hb2⟩
      · unfold zSp
        have BR2 := BR1.next hb2
        have HB2 : Hid (Below w.heap.size w U2) := below_next HB1.out (Nat.le_refl _) hb2
        have HE := Lib.hid (show drpE s nw wd n F sq bt p la wo = x from HDE.out.trans h1)
        have HX0 := Lib.hid h2
        have FINX := Lib.hid (show ∀ W', Below w.heap.size w W' → DropX s nw wd n F sq bt p la wo w (.returned (.tuple #[zSp9, .int .i64 x])) W' from fun W' h => .inl ⟨x, HE.out, HX0.out, rfl, h⟩)
        have r0 := BR2.cell 0
        have r1 := BR2.cell 1
        have r2 := BR2.cell 2
        have rf0 := BR2.frozen 0
        have rf1 := BR2.frozen 1
        have rf2 := BR2.frozen 2
        simp at r0 r1 r2
        have zr : w.heap.size + 2 < U2.heap.size := BR2.lt
        have zr2 : w.heap.size + 1 + 1 < U2.heap.size := BR2.lt
        clear p0 p1 p2 q0 q1 q2 q3 q4 h1 h2 hb2 BR1 BR2
        go_wp2
        refine bodyPost_ret (v := .tuple #[zSp9, .int .i64 x]) (by simp [results, Tryd.results27, go_sem, r0, r1, r2, zr2]) rfl (FINX.out _ ?_)
        exact below_alloc9 (below_put3 HB2.out (show w.heap.size ≤ w.heap.size + 1 + 1 by omega) _ _ _) _
      · have BR2 := BR1.next hb2
        have HB2 : Hid (Below w.heap.size w U2) := below_next HB1.out (Nat.le_refl _) hb2
        have HE := Lib.hid (show drpE s nw wd n F sq bt p la wo = 0 from HDE.out.trans h1)
        have HO := Lib.hid ho
        have HTT := Lib.hid ht
        have r0 := BR2.cell 0
        have r1 := BR2.cell 1
        have r2 := BR2.cell 2
        have rf0 := BR2.frozen 0
        have rf1 := BR2.frozen 1
        have rf2 := BR2.frozen 2
        simp at r0 r1 r2
        have zr : w.heap.size + 2 < U2.heap.size := BR2.lt
        have zr2 : w.heap.size + 1 + 1 < U2.heap.size := BR2.lt
        have zs1 := HB1.out.size
        clear p0 p1 p2 q0 q1 q2 q3 q4 h1 hb2 ho ht BR1 BR2
        go_wp2
        refine bodyPost_ret (v := .tuple #[.agg #[.int .i64 s, .slice A1 nw c1, .slice (some ⟨g, 0, none⟩) n c2], .int .i64 0]) (by simp [results, Tryd.results27, go_sem, r0, r1, r2, zr2]) rfl (.inr ⟨HE.out, A1, c1, g, c2, rfl, ?_, ?_, ?_⟩)
        · exact ((HO.out.put3 (show w.heap.size + 1 + 1 < U1.heap.size by omega) _ _ _).alloc9 _).lower zs1
        · exact ((HTT.out.put3 (show w.heap.size + 1 + 1 < U1.heap.size by omega) _ _ _).alloc9 _).lower zs1
        · exact below_alloc9 (below_put3 HB2.out (show w.heap.size ≤ w.heap.size + 1 + 1 by omega) _ _ _) _

/-- Some increment, and nothing that was there has turned. -/
def SomeInc (w : World) (e : Ending) (w' : World) : Prop := ∃ j0 j1 j2 j3 j4 : Int, e = .returned (.agg #[.int .i64 j0, .int .i64 j1, .int .i64 j2, .int .i64 j3, .int .i64 j4]) ∧ Below w.heap.size w w'

set_option maxHeartbeats 2000000 in
theorem pick9_any (L : Value) (I : List IncR) (B ib : Nat) (which : Int) (w : World) (hL : LRow w B ib I.length L (incCells I)) (hI : I.length ≤ 17) (a0 : -9223372036854775808 ≤ which) (a1 : which ≤ 9223372036854775807) :
    Calls Tryd.prog 12 #[L, .int .i64 which] w (SomeInc w) := by
  obtain ⟨Al, cl, hLe, hlc⟩ := row_slice hL.1
  subst hLe
  obtain ⟨m, hm⟩ : ∃ m, m = I.length := ⟨_, rfl⟩
  have HROW := Lib.hid (show ∀ t i, I[t]? = some i → ∃ g cap, Value.slice Al I.length cl = .slice (some ⟨g, 0, none⟩) I.length cap ∧ B ≤ g ∧ g < ib ∧ g < w.heap.size ∧ w.cell? ⟨g, t * 5, none⟩ = some (.int .i64 i.sq) ∧ w.cell? ⟨g, t * 5 + 1, none⟩ = some (.int .i64 i.bt) ∧ w.cell? ⟨g, t * 5 + 2, none⟩ = some (.int .i64 i.fi) ∧ w.cell? ⟨g, t * 5 + 3, none⟩ = some (.int .i64 i.la) ∧ w.cell? ⟨g, t * 5 + 4, none⟩ = some (.int .i64 i.wo) from fun t i h => lrow_cells hL h)
  have HM := Lib.hid hm
  rw [← hm] at hI hlc ⊢
  have hmod := Int.emod_nonneg which (show ((m : Int) + 1) ≠ 0 by omega)
  have hmod2 := Int.emod_lt_of_pos which (show 0 < ((m : Int) + 1) by omega)
  obtain ⟨z, hz⟩ : ∃ z : Nat, which % ((m : Int) + 1) = z := ⟨(which % ((m : Int) + 1)).toNat, by omega⟩
  rw [hz] at hmod hmod2
  have HZ := Lib.hid hz
  have hB0 : Below w.heap.size w (w.alloc (.cells #[.int .i64 0, .int .i64 0, .int .i64 0, .int .i64 0, .int .i64 0] 27)) := (Below.refl _ _).alloc (Nat.le_refl _) _
  clear hz hm hL
  have HB0 := Lib.hid hB0
  clear hB0
  by_cases hzm : z < m
  · have hzi : (z : Int) < (m : Int) := by omega
    have hlt : z < I.length := by rw [← HM.out]; exact hzm
    obtain ⟨g, cap, hE, _, _, hg, x0, x1, x2, x3, x4⟩ := HROW.out z I[z] (List.getElem?_eq_getElem hlt)
    injection hE with hE1 _ hE2
    subst hE1
    have hz2 : 0 ≤ (z : Int) ∧ (z : Int) < m := by omega
    obtain ⟨U, hU⟩ : ∃ U, U = w.alloc (.cells #[.int .i64 0, .int .i64 0, .int .i64 0, .int .i64 0, .int .i64 0] 27) := ⟨_, rfl⟩
    have FIN := Lib.hid (show ∀ W', Below w.heap.size w W' → SomeInc w (.returned (.agg #[.int .i64 I[z].sq, .int .i64 I[z].bt, .int .i64 I[z].fi, .int .i64 I[z].la, .int .i64 I[z].wo])) W' from fun W' h => ⟨_, _, _, _, _, rfl, h⟩)
    go_enter Tryd.func12, Tryd.ntmps12
    go_wp2_with (go_at_call 17; refine (mod_any which ((m : Int) + 1) (by omega) (by omega) a0 a1 _).mono ?_; rintro e w' ⟨rfl, rfl⟩; rw [HZ.out])
    refine bodyPost_ret (v := .agg #[.int .i64 I[z].sq, .int .i64 I[z].bt, .int .i64 I[z].fi, .int .i64 I[z].la, .int .i64 I[z].wo]) (by simp [results, Tryd.results12, go_sem]) rfl (FIN.out _ ?_)
    exact (Below.refl _ _).alloc (Nat.le_refl _) _
  · have hzi : ¬ (z : Int) < (m : Int) := by omega
    have FIN := Lib.hid (show ∀ W', Below w.heap.size w W' → SomeInc w (.returned (.agg #[.int .i64 90, .int .i64 2, .int .i64 (-1), .int .i64 (-1), .int .i64 0])) W' from fun W' h => ⟨_, _, _, _, _, rfl, h⟩)
    go_enter Tryd.func12, Tryd.ntmps12
    go_wp2_with (go_at_call 17; refine (mod_any which ((m : Int) + 1) (by omega) (by omega) a0 a1 _).mono ?_; rintro e w' ⟨rfl, rfl⟩; rw [HZ.out])
    refine bodyPost_ret (v := .agg #[.int .i64 90, .int .i64 2, .int .i64 (-1), .int .i64 (-1), .int .i64 0]) (by simp [results, Tryd.results12, go_sem]) rfl (FIN.out _ ?_)
    exact (Below.refl _ _).alloc (Nat.le_refl _) _

/-- What is known where Alloc gives a space. -/
theorem allE_zero {k nw n : Nat} {wd : Nat → Int} {F : Nat → Fr} {sq bt fi la wo d : Int} (h : allE k nw wd n F sq bt fi la wo d = 0) : incB k nw wd n F sq bt fi la wo = true ∧ 1 ≤ d ∧ d ≤ 48 ∧ ¬ (wo = 0 ∧ 0 < cntO F sq n) ∧ moreK k wo.toNat d.toNat ≤ freeN F n := by
  unfold allE at h
  rw [Int.toNat_natCast] at h
  split at h
  · cases h
  · rename_i h1
    split at h
    · cases h
    · rename_i h2
      split at h
      · cases h
      · rename_i h3
        refine ⟨?_, by omega, by omega, h2, by omega⟩
        cases e : incB k nw wd n F sq bt fi la wo
        · exact absurd (.inl e) h1
        · rfl
/-- Behind Alloc the space is valid, and the increment fits it. -/
theorem all_valid {k nw n : Nat} {wd : Nat → Int} {F : Nat → Fr} {sq bt fi la wo d : Int} (h : allE k nw wd n F sq bt fi la wo d = 0) :
    ∃ W D : Nat, wo = W ∧ d = D ∧ 1 ≤ D ∧ D ≤ 48 ∧ ValidP k nw wd n F ∧ ValidP k nw wd n (allG k n F sq bt fi la wo d).F ∧ FitsQ k n nw (allG k n F sq bt fi la wo d).F sq bt (allG k n F sq bt fi la wo d).fi (allG k n F sq bt fi la wo d).la ((W + D : Nat) : Int) ∧
      Grown_ F n k sq (bt * 4294967296 + sq) (ceilV W k) (ceilV (W + D) k) (allG k n F sq bt fi la wo d).fi (allG k n F sq bt fi la wo d).la (allG k n F sq bt fi la wo d).F := by
  obtain ⟨hi, h1, h2, h3, h4⟩ := allE_zero h
  obtain ⟨D, rfl⟩ : ∃ D : Nat, d = D := ⟨d.toNat, by omega⟩
  rw [Int.toNat_natCast] at h4
  obtain ⟨W, rfl, hg⟩ := allG_grown hi h4
  obtain ⟨hv, hfq⟩ := incB_yes hi
  rw [Int.toNat_natCast] at hfq
  have hvN : ValidP k nw wd n (allG k n F sq bt fi la W D).F := ValidP.mk_ hv.1 hv.2.1 hv.2.2.1 hg.1 (hv.zr.mono (fun f _ h => hg.2.2.1 f h))
  have hcnt : cntO F sq n = ceilV W k := by
    rcases Nat.eq_zero_or_pos W with h0 | h0
    · subst h0
      rw [ceilV_zero]
      rcases Nat.eq_zero_or_pos (cntO F sq n) with h5 | h5
      · exact h5
      · exact absurd ⟨rfl, h5⟩ h3
    · have := hfq.2 (by omega)
      rw [Int.toNat_natCast] at this
      omega
  have hcn := hg.2.2.2.2.2
  have hnew : cntO (allG k n F sq bt fi la W D).F sq n = ceilV (W + D) k := by omega
  have hle := cntO_le (allG k n F sq bt fi la W D).F sq n
  have hcov := ceilV_cover (W + D) k
  have hnw : nw = n * 2 ^ k := by have := hv.2.2.1; rw [Int.toNat_natCast] at this; exact this
  have hmul : ceilV (W + D) k * 2 ^ k ≤ n * 2 ^ k := Nat.mul_le_mul_right _ (by omega)
  obtain ⟨⟨f1, f2, f3, f4, _⟩, _⟩ := hfq
  exact ⟨W, D, rfl, rfl, by omega, by omega, hv, hvN, ⟨⟨f1, f2, f3, f4, W + D, rfl, by omega, hg.2.1, fun h => by omega⟩, fun _ => by rw [Int.toNat_natCast, hnew]⟩, hg⟩
/-- An increment without words fits every space. -/
theorem fits_new {k n nw : Nat} {F : Nat → Fr} {sq bt : Int} (h0 : 0 ≤ sq) (h1 : sq ≤ 4294967295) (h2 : 0 ≤ bt) (h3 : bt < 4) : FitsQ k n nw F sq bt (-1) (-1) 0 :=
  ⟨⟨h0, h1, h2, h3, 0, rfl, by omega, .inl ⟨ceilV_zero k, rfl⟩, fun _ => ⟨rfl, rfl⟩⟩, fun h => by omega⟩
end Go.Proofs.YthlkodhkhkdggaaDoor
