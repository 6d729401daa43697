/-
  Contracts of package object's own functions: clone, place, decode, refAt, dataAt, locate.
-/
import Derived.Test.YtfjdafnejhgijaaSet
import Derived.Deep.RegionHeld3
namespace Go.Proofs.Ytfjdafnejhgijaa
open Go.RowKit
set_option maxRecDepth 100000
set_option linter.unusedVariables false

set_option maxHeartbeats 1000000 in
theorem objClone_any (k : Int) (A A' : Option Addr) (nw c n c' : Nat) (wd : Nat → Int) (F : Nat → Fr) (w : World) (hA : Arr w w.heap.size A nw c wd) (hT : Tab w w.heap.size A' n c' F) (hn : n ≤ 4096) (hn0 : 0 < n) (hw : nw ≤ 1048576) (hw0 : 0 < nw) :
    Calls Try.prog 41 #[.agg #[.int .i64 k, .slice A nw c, .slice A' n c']] w (CopyOf k nw n wd F w) := by
  obtain ⟨b, o, rfl, hbb⟩ := hT.base_ hn0
  obtain ⟨b', o', rfl, hbb', _⟩ := hA.at_ 0 hw0
  have HA := Lib.hid hA
  have HT := Lib.hid hT
  obtain ⟨U, hU⟩ : ∃ U, U = (w.alloc (.cells #[.int .i64 k, .slice (some ⟨b', o', none⟩) nw c, .slice (some ⟨b, o, none⟩) n c'] 25)).alloc (.cells #[.int .i64 0, .slice none 0 0, .slice none 0 0] 25) := ⟨_, rfl⟩
  have BU : Blk U w.heap.size 25 #[.int .i64 k, .slice (some ⟨b', o', none⟩) nw c, .slice (some ⟨b, o, none⟩) n c'] := by rw [hU]; exact (Blk.new _ _ _).alloc _
  have BR : Blk U (w.heap.size + 1) 25 #[.int .i64 0, .slice none 0 0, .slice none 0 0] := by rw [hU]; exact Blk.newAt _ _ _ _ (by simp)
  have HBU : Hid (Below w.heap.size w U) := by rw [hU]; exact ((Below.refl _ _).alloc (Nat.le_refl _) _).alloc (by simp) _
  have HU := Lib.hid hU
  have p0 := BU.cell 0
  have p1 := BU.cell 1
  have p2 := BU.cell 2
  simp at p0 p1 p2
  have z1 : w.heap.size < U.heap.size := BU.lt
  have z2 : w.heap.size + 1 < U.heap.size := BR.lt
  have hau : Arr U U.heap.size (some ⟨b', o', none⟩) nw c wd := HA.out.next HBU.out
  have HAD : Hid (Arr U.drew U.drew.heap.size (some ⟨b', o', none⟩) nw c wd) := hau
  clear hau
  have htu : Tab U U.heap.size (some ⟨b, o, none⟩) n c' F := HT.out.next HBU.out
  have HTD : Hid (Tab U.drew U.drew.heap.size (some ⟨b, o, none⟩) n c' F) := htu
  clear htu
  have BRD : Blk U.drew (w.heap.size + 1) 25 #[.int .i64 0, .slice none 0 0, .slice none 0 0] := BR
  clear hA hT hU
  go_enter Try.func41, Try.ntmps41
  go_wp2
  rw [← HU.out]
  go_region_held3 (fun w' => w'.cell? ⟨w.heap.size, 0, none⟩ = some (.int .i64 k) ∧ w'.cell? ⟨w.heap.size, 1, none⟩ = some (.slice (some ⟨b', o', none⟩) nw c) ∧ w'.cell? ⟨w.heap.size, 2, none⟩ = some (.slice (some ⟨b, o, none⟩) n c'))
    (first | exact ⟨p0, p1, p2⟩ | exact ⟨a0, a1, a2⟩ | exact ⟨b0, b1, b2⟩ | go_keep)
    (first
      | (go_at_call 68; refine (clonew_any b' o' nw c wd _ HAD.out hw hw0).mono ?_; rintro e wa ⟨A1, c1, rfl, ho, hba⟩; have a0 := (hba.cell (p := ⟨w.heap.size, 0, none⟩) z1).trans p0; have a1 := (hba.cell (p := ⟨w.heap.size, 1, none⟩) z1).trans p1; have a2 := (hba.cell (p := ⟨w.heap.size, 2, none⟩) z1).trans p2; have za : w.heap.size < wa.heap.size := Nat.lt_of_lt_of_le z1 hba.size; have Ba := BRD.next hba; have zRa := Ba.lt; have ra0 := Ba.cell 0; have ra1 := Ba.cell 1; have ra2 := Ba.cell 2; simp at ra0 ra1 ra2; have fa0 := Ba.frozen 0; have fa1 := Ba.frozen 1; have fa2 := Ba.frozen 2)
      | (go_at_call 68; refine (clonew_any b' o' nw c wd _ (HAD.out.next hbb2) hw hw0).mono ?_; rintro e wa ⟨A1, c1, rfl, ho, hba⟩; have a0 := (hba.cell (p := ⟨w.heap.size, 0, none⟩) zb).trans b0; have a1 := (hba.cell (p := ⟨w.heap.size, 1, none⟩) zb).trans b1; have a2 := (hba.cell (p := ⟨w.heap.size, 2, none⟩) zb).trans b2; have za : w.heap.size < wa.heap.size := Nat.lt_of_lt_of_le zb hba.size; have Ba := Bb.next hba; have zRa := Ba.lt; have ra0 := Ba.cell 0; have ra1 := Ba.cell 1; have ra2 := Ba.cell 2; simp at ra0 ra1 ra2; have fa0 := Ba.frozen 0; have fa1 := Ba.frozen 1; have fa2 := Ba.frozen 2)
      | (go_at_call 69; refine (clonef_any b o n c' F _ HTD.out hn hn0).mono ?_; rintro e wb ⟨gt, ct, rfl, htab, hbb2⟩; have b0 := (hbb2.cell (p := ⟨w.heap.size, 0, none⟩) z1).trans p0; have b1 := (hbb2.cell (p := ⟨w.heap.size, 1, none⟩) z1).trans p1; have b2 := (hbb2.cell (p := ⟨w.heap.size, 2, none⟩) z1).trans p2; have zb : w.heap.size < wb.heap.size := Nat.lt_of_lt_of_le z1 hbb2.size; have Bb := BRD.next hbb2; have zRb := Bb.lt; have rb0 := Bb.cell 0; have rb1 := Bb.cell 1; have rb2 := Bb.cell 2; simp at rb0 rb1 rb2; have fb0 := Bb.frozen 0; have fb1 := Bb.frozen 1; have fb2 := Bb.frozen 2)
      | (go_at_call 69; refine (clonef_any b o n c' F _ (HTD.out.next hba) hn hn0).mono ?_; rintro e wb ⟨gt, ct, rfl, htab, hbb2⟩; have b0 := (hbb2.cell (p := ⟨w.heap.size, 0, none⟩) za).trans a0; have b1 := (hbb2.cell (p := ⟨w.heap.size, 1, none⟩) za).trans a1; have b2 := (hbb2.cell (p := ⟨w.heap.size, 2, none⟩) za).trans a2; have zb : w.heap.size < wb.heap.size := Nat.lt_of_lt_of_le za hbb2.size; have Bb := Ba.next hbb2; have zRb := Bb.lt; have rb0 := Bb.cell 0; have rb1 := Bb.cell 1; have rb2 := Bb.cell 2; simp at rb0 rb1 rb2; have fb0 := Bb.frozen 0; have fb1 := Bb.frozen 1; have fb2 := Bb.frozen 2))
  have hud : Below w.heap.size w U.drew := HBU.out.drew
  have HBB := Lib.hid (below_next (below_next hud (Nat.le_refl _) hba) (Nat.le_refl _) hbb2)
  have hur : U.drew.heap.size ≤ wa.heap.size := hba.size
  have z3 : w.heap.size + 1 < wa.heap.size := Nat.lt_of_lt_of_le z2 hur
  have HO2 := Lib.hid (ho.below hbb2)
  have HTA := Lib.hid htab
  clear ho htab hba hbb2 hud
  go_wp2
  refine bodyPost_ret (v := .agg #[.int .i64 k, .slice A1 nw c1, .slice (some ⟨gt, 0, none⟩) n ct]) (by simp [results, Try.results41, go_sem, rb0, rb1, rb2]) rfl ⟨_, _, _, _, rfl, ?_, ?_, ?_⟩
  · exact (HO2.out.put3 z2 _ _ _).lower (show w.heap.size ≤ U.drew.heap.size from Nat.le_of_lt z1)
  · exact (HTA.out.put3 z3 _ _ _).lower (Nat.le_of_lt za)
  · exact below_put3 HBB.out (by omega) _ _ _

/-- A decoded object, and the zero one. -/
def ObjV (s : Int) (A : Option Addr) (nw c : Nat) (A' : Option Addr) (n c' : Nat) (a r d : Int) : Value := .agg #[.int .i64 s, .slice A nw c, .slice A' n c', .int .i64 a, .int .i64 r, .int .i64 d]
def zObj : Value := .agg #[.int .i64 0, .slice none 0 0, .slice none 0 0, .int .i64 0, .int .i64 0, .int .i64 0]
theorem below_put6 {B b : Nat} {w' w : World} (h : Below B w' w) (hb : B ≤ b) (v0 v1 v2 v3 v4 v5 : Value) :
    Below B w' ((((((w.setCell ⟨b, 0, none⟩ v0).setCell ⟨b, 1, none⟩ v1).setCell ⟨b, 2, none⟩ v2).setCell ⟨b, 3, none⟩ v3).setCell ⟨b, 4, none⟩ v4).setCell ⟨b, 5, none⟩ v5) :=
  (((below_put3 h hb v0 v1 v2).setCell (p := ⟨b, 3, none⟩) hb v3).setCell (p := ⟨b, 4, none⟩) hb v4).setCell (p := ⟨b, 5, none⟩) hb v5

def PlaceOut (s : Int) (A : Option Addr) (nw c : Nat) (A' : Option Addr) (n c' : Nat) (wd : Nat → Int) (F : Nat → Fr) (a r d : Int) (w : World) (e : Ending) (w' : World) : Prop :=
  (∃ y : Int, stpE s nw wd n F a (r + d) = y ∧ y ≠ 0 ∧ e = .returned (.tuple #[zObj, .int .i64 y]) ∧ Below w.heap.size w w') ∨
  (stpE s nw wd n F a (r + d) = 0 ∧ e = .returned (.tuple #[ObjV s A nw c A' n c' a r d, .int .i64 0]) ∧ Below w.heap.size w w')

set_option maxHeartbeats 1000000 in
theorem objPlace_any (s : Int) (A A' : Option Addr) (nw c n c' : Nat) (wd : Nat → Int) (F : Nat → Fr) (a r d : Int) (w : World) (hA : Arr w w.heap.size A nw c wd) (hT : Tab w w.heap.size A' n c' F)
    (a0 : -9223372036854775808 ≤ a) (a1 : a ≤ 9223372036854775807) (r0 : 0 ≤ r) (r1 : r ≤ 15) (d0 : 0 ≤ d) (d1 : d ≤ 32) :
    Calls Try.prog 40 #[.agg #[.int .i64 s, .slice A nw c, .slice A' n c'], .int .i64 a, .int .i64 r, .int .i64 d] w (PlaceOut s A nw c A' n c' wd F a r d w) := by
  obtain ⟨U, hU⟩ : ∃ U, U = (w.alloc (.cells #[.int .i64 s, .slice A nw c, .slice A' n c'] 25)).alloc (.cells #[.int .i64 0, .slice none 0 0, .slice none 0 0, .int .i64 0, .int .i64 0, .int .i64 0] 76) := ⟨_, rfl⟩
  have BU : Blk U w.heap.size 25 #[.int .i64 s, .slice A nw c, .slice A' n c'] := by rw [hU]; exact (Blk.new _ _ _).alloc _
  have BR : Blk U (w.heap.size + 1) 76 #[.int .i64 0, .slice none 0 0, .slice none 0 0, .int .i64 0, .int .i64 0, .int .i64 0] := by rw [hU]; exact Blk.newAt _ _ _ _ (by simp)
  have HBU : Hid (Below w.heap.size w U) := by rw [hU]; exact ((Below.refl _ _).alloc (Nat.le_refl _) _).alloc (by simp) _
  have HU := Lib.hid hU
  have c1 := step5_any s A A' nw c n c' wd F a (r + d) U (hA.next HBU.out) (hT.next HBU.out) a0 a1 (by omega) (by omega)
  have p0 := BU.cell 0
  have p1 := BU.cell 1
  have p2 := BU.cell 2
  have pz := BU.lt
  simp at p0 p1 p2
  clear hA hT hU
  by_cases h0 : stpE s nw wd n F a (r + d) = 0
  · rw [h0] at c1
    obtain ⟨v, hv⟩ : ∃ v, v = stpV s nw wd n F a (r + d) := ⟨_, rfl⟩
    rw [← hv] at c1
    have H0 := Lib.hid h0
    clear h0 hv
    go_enter Try.func40, Try.ntmps40
    go_wp2_with fail
    rw [← HU.out]
    refine c1.mono ?_
    rintro e U1 ⟨rfl, hb1⟩
    have BU1 := BU.next hb1
    have BR1 := BR.next hb1
    have HB1 := Lib.hid (below_next HBU.out (Nat.le_refl _) hb1)
    have q0 := BU1.cell 0
    have q1 := BU1.cell 1
    have q2 := BU1.cell 2
    have qz := BU1.lt
    have s0 := BR1.cell 0
    have s1 := BR1.cell 1
    have s2 := BR1.cell 2
    have s3 := BR1.cell 3
    have s4 := BR1.cell 4
    have s5 := BR1.cell 5
    have f0 := BR1.frozen 0
    have f1 := BR1.frozen 1
    have f2 := BR1.frozen 2
    have f3 := BR1.frozen 3
    have f4 := BR1.frozen 4
    have f5 := BR1.frozen 5
    have rz := BR1.lt
    simp at q0 q1 q2 s0 s1 s2 s3 s4 s5
    clear hb1 p0 p1 p2 pz
    go_wp2
    refine bodyPost_ret (v := .tuple #[.agg #[.int .i64 s, .slice A nw c, .slice A' n c', .int .i64 a, .int .i64 r, .int .i64 d], .int .i64 0]) (by simp [results, Try.results40, go_sem, s0, s1, s2, s3, s4, s5]) rfl (.inr ⟨H0.out, rfl, below_put6 HB1.out (by omega) _ _ _ _ _ _⟩)
  · obtain ⟨y, hy⟩ : ∃ y, y = stpE s nw wd n F a (r + d) := ⟨_, rfl⟩
    obtain ⟨v, hv⟩ : ∃ v, v = stpV s nw wd n F a (r + d) := ⟨_, rfl⟩
    rw [← hv, ← hy] at c1
    rw [← hy] at h0
    have hne : (y != 0) = true := by simpa using h0
    have HY := Lib.hid hy
    have H0 := Lib.hid h0
    clear h0 hv hy
    go_enter Try.func40, Try.ntmps40
    go_wp2_with fail
    rw [← HU.out]
    refine c1.mono ?_
    rintro e U1 ⟨rfl, hb1⟩
    have BR1 := BR.next hb1
    have HB1 := Lib.hid (below_next HBU.out (Nat.le_refl _) hb1)
    have s0 := BR1.cell 0
    have s1 := BR1.cell 1
    have s2 := BR1.cell 2
    have s3 := BR1.cell 3
    have s4 := BR1.cell 4
    have s5 := BR1.cell 5
    have f0 := BR1.frozen 0
    have f1 := BR1.frozen 1
    have f2 := BR1.frozen 2
    have f3 := BR1.frozen 3
    have f4 := BR1.frozen 4
    have f5 := BR1.frozen 5
    have rz := BR1.lt
    simp at s0 s1 s2 s3 s4 s5
    clear hb1 p0 p1 p2 pz
    go_wp2
    refine bodyPost_ret (v := .tuple #[.agg #[.int .i64 0, .slice none 0 0, .slice none 0 0, .int .i64 0, .int .i64 0, .int .i64 0], .int .i64 y]) (by simp [results, Try.results40, go_sem, s0, s1, s2, s3, s4, s5]) rfl (.inl ⟨y, HY.out.symm, H0.out, rfl, below_put6 HB1.out (by omega) _ _ _ _ _ _⟩)

/-! Fields by a finder. -/
def atK (r : Int) (t : Bool) (i : Int) : Int := if t then 1 + i else 1 + r + i
def atN (r d : Int) (t : Bool) : Int := if t then r else d
theorem refAt_any (s : Int) (A A' : Option Addr) (nw c n c' : Nat) (wd : Nat → Int) (F : Nat → Fr) (a r d i : Int) (w : World) (hA : Arr w w.heap.size A nw c wd) (hT : Tab w w.heap.size A' n c' F)
    (a0 : -9223372036854775808 ≤ a) (a1 : a ≤ 9223372036854775807) (r1 : r ≤ 15) :
    Calls Try.prog 44 #[.agg #[.int .i64 s, .slice A nw c, .slice A' n c', .int .i64 a, .int .i64 r, .int .i64 d], .int .i64 i] w
      (Gives2 (if i < 0 ∨ r ≤ i then 0 else stpV s nw wd n F a (atK r true i)) (if i < 0 ∨ r ≤ i then 17 else stpE s nw wd n F a (atK r true i)) w) := by
  obtain ⟨U, hU⟩ : ∃ U, U = w.alloc (.cells #[.int .i64 s, .slice A nw c, .slice A' n c', .int .i64 a, .int .i64 r, .int .i64 d] 76) := ⟨_, rfl⟩
  have BU : Blk U w.heap.size 76 #[.int .i64 s, .slice A nw c, .slice A' n c', .int .i64 a, .int .i64 r, .int .i64 d] := by rw [hU]; exact Blk.new _ _ _
  have HBU : Hid (Below w.heap.size w U) := by rw [hU]; exact (Below.refl _ _).alloc (Nat.le_refl _) _
  have HU := Lib.hid hU
  have p0 := BU.cell 0
  have p1 := BU.cell 1
  have p2 := BU.cell 2
  have p3 := BU.cell 3
  have p4 := BU.cell 4
  have pz := BU.lt
  simp at p0 p1 p2 p3 p4
  have HA := Lib.hid (hA.next HBU.out)
  have HT := Lib.hid (hT.next HBU.out)
  clear hA hT hU
  by_cases hi : i < 0 ∨ r ≤ i
  · rw [if_pos hi, if_pos hi]
    by_cases hi0 : i < 0
    · clear hi
      go_enter Try.func44, Try.ntmps44
      go_wp2_with fail
      rw [← HU.out]
      go_ret2
      exact ⟨rfl, HBU.out⟩
    · have hi1 := hi.resolve_left hi0
      clear hi
      go_enter Try.func44, Try.ntmps44
      go_upto_region 1 with fail
      rw [← HU.out]
      go_wp2_with fail
      go_ret2
      exact ⟨rfl, HBU.out⟩
  · rw [if_neg hi, if_neg hi]
    have hi0 : ¬ i < 0 := fun h => hi (.inl h)
    have hi1 : ¬ r ≤ i := fun h => hi (.inr h)
    have c1 := step5_any s A A' nw c n c' wd F a (1 + i) U HA.out HT.out a0 a1 (by omega) (by omega)
    obtain ⟨y, hy⟩ : ∃ y, y = stpE s nw wd n F a (1 + i) := ⟨_, rfl⟩
    obtain ⟨v, hv⟩ : ∃ v, v = stpV s nw wd n F a (1 + i) := ⟨_, rfl⟩
    rw [← hv, ← hy] at c1
    show Calls _ _ _ _ (Gives2 (stpV s nw wd n F a (1 + i)) (stpE s nw wd n F a (1 + i)) w)
    rw [← hv, ← hy]
    clear hi hy hv
    go_enter Try.func44, Try.ntmps44
    go_upto_region 1 with fail
    rw [← HU.out]
    go_wp2_with fail
    refine c1.mono ?_
    rintro e U1 ⟨rfl, hb1⟩
    have HB1 := Lib.hid (below_next HBU.out (Nat.le_refl _) hb1)
    clear hb1
    go_wp2_with fail
    go_ret2
    exact ⟨rfl, HB1.out⟩
theorem dataAt_any (s : Int) (A A' : Option Addr) (nw c n c' : Nat) (wd : Nat → Int) (F : Nat → Fr) (a r d i : Int) (w : World) (hA : Arr w w.heap.size A nw c wd) (hT : Tab w w.heap.size A' n c' F)
    (a0 : -9223372036854775808 ≤ a) (a1 : a ≤ 9223372036854775807) (r0 : 0 ≤ r) (r1 : r ≤ 15) (d1 : d ≤ 32) :
    Calls Try.prog 45 #[.agg #[.int .i64 s, .slice A nw c, .slice A' n c', .int .i64 a, .int .i64 r, .int .i64 d], .int .i64 i] w
      (Gives2 (if i < 0 ∨ d ≤ i then 0 else stpV s nw wd n F a (atK r false i)) (if i < 0 ∨ d ≤ i then 17 else stpE s nw wd n F a (atK r false i)) w) := by
  obtain ⟨U, hU⟩ : ∃ U, U = w.alloc (.cells #[.int .i64 s, .slice A nw c, .slice A' n c', .int .i64 a, .int .i64 r, .int .i64 d] 76) := ⟨_, rfl⟩
  have BU : Blk U w.heap.size 76 #[.int .i64 s, .slice A nw c, .slice A' n c', .int .i64 a, .int .i64 r, .int .i64 d] := by rw [hU]; exact Blk.new _ _ _
  have HBU : Hid (Below w.heap.size w U) := by rw [hU]; exact (Below.refl _ _).alloc (Nat.le_refl _) _
  have HU := Lib.hid hU
  have p0 := BU.cell 0
  have p1 := BU.cell 1
  have p2 := BU.cell 2
  have p3 := BU.cell 3
  have p4 := BU.cell 4
  have p5 := BU.cell 5
  have pz := BU.lt
  simp at p0 p1 p2 p3 p4 p5
  have HA := Lib.hid (hA.next HBU.out)
  have HT := Lib.hid (hT.next HBU.out)
  clear hA hT hU
  by_cases hi : i < 0 ∨ d ≤ i
  · rw [if_pos hi, if_pos hi]
    by_cases hi0 : i < 0
    · clear hi
      go_enter Try.func45, Try.ntmps45
      go_wp2_with fail
      rw [← HU.out]
      go_ret2
      exact ⟨rfl, HBU.out⟩
    · have hi1 := hi.resolve_left hi0
      clear hi
      go_enter Try.func45, Try.ntmps45
      go_upto_region 1 with fail
      rw [← HU.out]
      go_wp2_with fail
      go_ret2
      exact ⟨rfl, HBU.out⟩
  · rw [if_neg hi, if_neg hi]
    have hi0 : ¬ i < 0 := fun h => hi (.inl h)
    have hi1 : ¬ d ≤ i := fun h => hi (.inr h)
    have c1 := step5_any s A A' nw c n c' wd F a (1 + r + i) U HA.out HT.out a0 a1 (by omega) (by omega)
    obtain ⟨y, hy⟩ : ∃ y, y = stpE s nw wd n F a (1 + r + i) := ⟨_, rfl⟩
    obtain ⟨v, hv⟩ : ∃ v, v = stpV s nw wd n F a (1 + r + i) := ⟨_, rfl⟩
    rw [← hv, ← hy] at c1
    show Calls _ _ _ _ (Gives2 (stpV s nw wd n F a (1 + r + i)) (stpE s nw wd n F a (1 + r + i)) w)
    rw [← hv, ← hy]
    clear hi hy hv
    go_enter Try.func45, Try.ntmps45
    go_upto_region 1 with fail
    rw [← HU.out]
    go_wp2_with fail
    refine c1.mono ?_
    rintro e U1 ⟨rfl, hb1⟩
    have HB1 := Lib.hid (below_next HBU.out (Nat.le_refl _) hb1)
    clear hb1
    go_wp2_with fail
    go_ret2
    exact ⟨rfl, HB1.out⟩
end Go.Proofs.Ytfjdafnejhgijaa
