/-
  Contracts of the laws' own functions: objects and near.
-/
import Derived.Test.YtfjdafnejhgijaaOall
import Derived.Test.YtfjdafnejhgijaaMSpace
namespace Go.Proofs.Ytfjdafnejhgijaa
open Go.RowKit
set_option maxRecDepth 100000
set_option linter.unusedVariables false

theorem tdiv5 {k : Int} (h0 : -9223372036854775808 ≤ k) (h1 : k ≤ 9223372036854775807) : -9223372036854775808 ≤ k.tdiv 5 ∧ k.tdiv 5 ≤ 9223372036854775807 := by
  by_cases h : 0 ≤ k
  · rw [Int.tdiv_eq_ediv_of_nonneg h]; omega
  · have e : k.tdiv 5 = -((-k) / 5) := by
      rw [← Int.tdiv_eq_ediv_of_nonneg (by omega : 0 ≤ -k), Int.neg_tdiv, Int.neg_neg]
    omega

def ObsOut (K nw : Nat) (wd : Nat → Int) (n : Nat) (F : Nat → Fr) (I : List IncR) (w : World) (e : Ending) (w' : World) : Prop := ∃ l : List Nat, GivesNums l w e w' ∧ ObjsP K nw wd n F I I.length l ∧ l.length ≤ 300000

set_option maxHeartbeats 4000000 in
theorem objects_any (K : Nat) (A A' : Option Addr) (nw c n c' : Nat) (wd : Nat → Int) (F : Nat → Fr) (I : List IncR) (BI ib : Nat) (L : Value) (w : World) (hA : Arr w w.heap.size A nw c wd) (hT : Tab w w.heap.size A' n c' F) (hv : ValidP K nw wd n F) (hu : U64w nw wd)
    (hall : AllP F n K I) (hR : LRow w BI ib I.length L (incCells I)) :
    Calls Try.prog 32 #[.agg #[.int .i64 K, .slice A nw c, .slice A' n c'], L] w (ObsOut K nw wd n F I w) := by
  obtain ⟨i0, hi0, hz0, hz1, hz2⟩ := info_parts int_info
  obtain ⟨n2, n64, nw0, nw1⟩ := sp_bounds hv
  obtain ⟨_, k8⟩ := shB_yes hv.1
  have h17 := allP_len hall
  obtain ⟨AL, cL, rfl, _⟩ := row_slice hR.1
  obtain ⟨N, hN⟩ : ∃ N, N = I.length := ⟨_, rfl⟩
  obtain ⟨U, hU⟩ : ∃ U, U = w.alloc (.cells #[.int .i64 K, .slice A nw c, .slice A' n c'] 25) := ⟨_, rfl⟩
  have BS : Blk U w.heap.size 25 #[.int .i64 K, .slice A nw c, .slice A' n c'] := by rw [hU]; exact Blk.new _ _ _
  have HBU : Hid (Below w.heap.size w U) := by rw [hU]; exact (Below.refl _ _).alloc (Nat.le_refl _) _
  have HU := Lib.hid hU
  have HA := Lib.hid (hA.next HBU.out)
  have HT := Lib.hid (hT.next HBU.out)
  have HV := Lib.hid hv
  have HU64 := Lib.hid hu
  have HALL := Lib.hid hall
  have HR := Lib.hid (hR.below HBU.out)
  rw [← hN] at h17 ⊢
  have HN := Lib.hid hN
  clear hA hT hU hv hu hall hR hN
  go_enter Try.func32, Try.ntmps32
  go_wp2
  rw [← HU.out]
  go_loopw [5, 7, 8, 9, 12] (fun v _ _ _ i wr => ∃ (t : Nat) (l : List Nat), t ≤ N ∧ i = .int .i64 t ∧ ObjsP K nw wd n F I t l ∧ l.length ≤ t * 16640 ∧ wr.ownsRow U.heap.size 3 1 v l.length (numL l) ∧ Below U.heap.size U wr ∧ ∃ A c, v = .slice A l.length c) (fun _ _ _ _ i _ => N - (intOf i).toNat)
  case atStart => exact ⟨0, [], by omega, rfl, ObjsP.nil _, by simp, World.ownsRow_nil _ _ _ _, Below.refl _ _, none, 0, rfl⟩
  case round =>
    obtain ⟨t, l, ht, rfl, hobs, hlen, hown, hb, A2, c2, rfl⟩ := hrel
    obtain ⟨R, rfl⟩ : ∃ R, R = wr := ⟨_, rfl⟩
    have BS1 := BS.next hb
    have HOB := Lib.hid hobs
    have HOW := Lib.hid hown
    have HB := Lib.hid hb
    clear hobs hown hb
    by_cases hlt : t < N
    · have hlt2 : 0 ≤ (t : Int) ∧ (t : Int) < N := by omega
      obtain ⟨inc, hinc⟩ : ∃ i, I[t]? = some i := ⟨I[t]'(by rw [← HN.out]; exact hlt), List.getElem?_eq_getElem (by rw [← HN.out]; exact hlt)⟩
      obtain ⟨g, cap, e, _, _, hgz, c0, c1, c2', c3, c4⟩ := lrow_cells (HR.out.below HB.out) hinc
      injection e with e1 _ e3
      subst e1 e3
      obtain ⟨hP, hwo, _⟩ := HALL.out t inc hinc
      obtain ⟨p, m, W, hfi, hpn, hpo, hsq, hl, hW, hWm, hmb⟩ := inc_run HV.out hP hwo
      have HP := Lib.hid (show (F p).ow ≠ -1 by rw [hpo]; exact hsq)
      have HL := Lib.hid hl
      have HWM := Lib.hid hWm
      have HINC := Lib.hid hinc
      have HFI := Lib.hid hfi
      have HW := Lib.hid hW
      rw [hfi] at c2'
      rw [hW] at c4
      obtain ⟨x0, hx0⟩ : ∃ x, x = inc.sq := ⟨_, rfl⟩
      obtain ⟨x1, hx1⟩ : ∃ x, x = inc.bt := ⟨_, rfl⟩
      obtain ⟨x3, hx3⟩ : ∃ x, x = inc.la := ⟨_, rfl⟩
      rw [← hx0] at c0
      rw [← hx1] at c1
      rw [← hx3] at c3
      clear hx0 hx1 hx3 hP hwo hfi hpo hsq hl hW hWm hinc
      obtain ⟨V, hV⟩ : ∃ V, V = R.alloc (.cells #[.int .i64 x0, .int .i64 x1, .int .i64 p, .int .i64 x3, .int .i64 W] 59) := ⟨_, rfl⟩
      have hbv : Below R.heap.size R V := by rw [hV]; exact (Below.refl _ _).alloc (Nat.le_refl _) _
      have BN : Blk V R.heap.size 59 #[.int .i64 x0, .int .i64 x1, .int .i64 p, .int .i64 x3, .int .i64 W] := by rw [hV]; exact Blk.new _ _ _
      have BS2 := BS1.next hbv
      have HBV := Lib.hid (below_next HB.out (Nat.le_refl _) hbv)
      have HOV := Lib.hid (ownsRow_below8 HOW.out hbv)
      have HVV := Lib.hid hV
      have q0 := BS2.cell 0
      have q1 := BS2.cell 1
      have q2 := BS2.cell 2
      have qz := BS2.lt
      have j0 := BN.cell 0
      have j1 := BN.cell 1
      have j2 := BN.cell 2
      have j3 := BN.cell 3
      have j4 := BN.cell 4
      have jz := BN.lt
      simp at q0 q1 q2 j0 j1 j2 j3 j4
      clear hV hbv
      go_upto_region 5 with fail
      rw [← HVV.out]
      go_wp2_with fail
      refine (refAll_any K A A' nw c n c' wd F x0 x1 x3 p m W V (HA.out.next HBV.out) (HT.out.next HBV.out) HV.out HU64.out hpn HP.out HL.out HWM.out hmb).mono ?_
      rintro e W1 ⟨l2, y2, Q2, ⟨A3, c3', rfl, hn3, hb3⟩, hrun, hQ⟩
      have hl2 : l2.length ≤ Q2 := hrun.len HU64.out
      have hW2 : W ≤ 16640 := by
        have h := Nat.mul_le_mul (show m ≤ 65 by omega) (show 2 ^ K ≤ 256 from Nat.pow_le_pow_right (n := 2) (by decide) (show K ≤ 8 by omega))
        have := HWM.out
        omega
      have HOB2 := Lib.hid (HOB.out.app HU64.out HINC.out HFI.out hrun (by rw [HW.out]; omega))
      have hlen2 : (l ++ l2).length ≤ (t + 1) * 16640 := by rw [List.length_append, Nat.add_mul]; omega
      have HLEN2 := Lib.hid hlen2
      have HOW1 := Lib.hid (ownsRow_below8 HOV.out hb3)
      have HB1 := Lib.hid (below_next HBV.out (Nat.le_refl _) hb3)
      have hob := row_block HOW1.out
      have zz : U.heap.size ≤ W1.heap.size := HB1.out.size
      have HN3 := Lib.hid hn3
      have hlt17 : l.length ≤ 282880 := by have : t * 16640 ≤ 17 * 16640 := Nat.mul_le_mul_right _ (by omega); omega
      clear hn3 hb3 hrun q0 q1 q2 qz j0 j1 j2 j3 j4 jz c0 c1 c2' c3 c4 hlen2
      rcases A3 with _ | x
      · have hc0 : c3' = 0 := HN3.out.2.2.1 rfl
        have hn0 : l2.length = 0 := by have := HN3.out.1; omega
        subst hc0
        have hl0 : l2 = [] := List.length_eq_zero_iff.1 hn0
        subst hl0
        have HC := Lib.hid (show l ++ [] = l by simp)
        go_wp2_with (at_builtin; refine wpList_append_own_none rfl _ _ _ rfl U.heap.size 3 i0 1 Try.underlying26 hi0 _ _ _ rfl HOW1.out rfl ?_)
        exact ⟨⟨t + 1, l, by omega, by first | rfl | go_num | simp, by have h := HOB2.out; rw [HC.out] at h; exact h, by have h := HLEN2.out; rw [HC.out] at h; exact h, HOW1.out, HB1.out, _, _, rfl⟩, by simp [intOf]; omega⟩
      · have HC := Lib.hid (nums_news HN3.out rfl)
        go_wp2_with (at_builtin; refine wpList_append_own _ rfl _ _ 26 rfl U.heap.size 3 i0 (.int .i64 0) 1 8 Try.underlying26 hi0 hz0 hz1 hz2 rfl (by decide) _ l.length (numL l) rfl HOW1.out x l2.length c3' (numL l2) rfl ?c1 HC.out (numL_one l2) ?c3 ?c4 zz ?_)
        case c1 => rw [numL_length]; omega
        case c3 => simp only [maxLen]; omega
        case c4 => omega
        intro v' w1 hown' hgrow _
        rw [numL_append] at hown'
        obtain ⟨A5, c5, rfl, _⟩ := row_slice hown'
        have e5 : l.length + l2.length = (l ++ l2).length := by simp
        have HNN := Lib.hid (show w1.ownsRow U.heap.size 3 1 (.slice A5 (l.length + l2.length) c5) (l ++ l2).length (numL (l ++ l2)) by rw [← e5]; exact hown')
        have HB2 := Lib.hid (HB1.out.grown hgrow zz hob)
        have HE5 := Lib.hid e5
        clear hown' hgrow hob e5
        go_wp2
        exact ⟨⟨t + 1, l ++ l2, by omega, by first | rfl | go_num | simp, HOB2.out, HLEN2.out, HNN.out, HB2.out, _, _, by rw [← HE5.out]⟩, by simp [intOf]; omega⟩
    · obtain rfl : t = N := by omega
      have hlt2 : ¬ (t : Int) < t := by omega
      obtain ⟨A5, c5, e5, hn5, _⟩ := nums_of_row HOW.out
      injection e5 with e5 _ e6
      subst e5 e6
      have HN5 := Lib.hid hn5
      have hlen3 : l.length ≤ 300000 := by have : t * 16640 ≤ 17 * 16640 := Nat.mul_le_mul_right _ (by omega); omega
      have HLEN3 := Lib.hid hlen3
      clear hn5 hlen3
      go_wp2
      go_ret
      exact ⟨l, ⟨_, _, rfl, HN5.out, below_next HBU.out (Nat.le_refl _) HB.out⟩, by rw [← HN.out]; exact HOB.out, HLEN3.out⟩

abbrev In8 (x : Int) : Prop := -9223372036854775808 ≤ x ∧ x ≤ 9223372036854775807
def NearOut (w : World) (e : Ending) (w' : World) : Prop := ∃ v : Int, e = .returned (.int .i64 v) ∧ In8 v ∧ Below w.heap.size w w'
theorem addr_word {K nw : Nat} {wd : Nat → Int} {n : Nat} {F : Nat → Fr} {I : List IncR} {t q x : Nat} (h : IsObj K nw wd n F I t q x) : x < nw := by
  obtain ⟨i, _, _, he, _⟩ := h
  have := adB_yes (stp_iff.1 (shp_yes he).1).2.1
  omega
theorem ObjsP.lt {K nw : Nat} {wd : Nat → Int} {n : Nat} {F : Nat → Fr} {I : List IncR} {t j : Nat} {l : List Nat} (h : ObjsP K nw wd n F I t l) (hj : j < l.length) : l.getD j 0 < nw := by
  obtain ⟨f, q, h1⟩ := h
  exact addr_word (h1 j hj).2.1

set_option maxHeartbeats 2000000 in
theorem near_any (K : Nat) (A A' : Option Addr) (nw c n c' : Nat) (wd : Nat → Int) (F : Nat → Fr) (I : List IncR) (BI ib : Nat) (L : Value) (a : Int) (w : World) (hA : Arr w w.heap.size A nw c wd) (hT : Tab w w.heap.size A' n c' F) (hv : ValidP K nw wd n F) (hu : U64w nw wd)
    (hall : AllP F n K I) (hR : LRow w BI ib I.length L (incCells I)) (a0 : -9223372036854775808 ≤ a) (a1 : a ≤ 9223372036854775807) :
    Calls Try.prog 14 #[.agg #[.int .i64 K, .slice A nw c, .slice A' n c'], L, .int .i64 a] w (NearOut w) := by
  obtain ⟨n2, n64, nw0, nw1⟩ := sp_bounds hv
  obtain ⟨U, hU⟩ : ∃ U, U = w.alloc (.cells #[.int .i64 K, .slice A nw c, .slice A' n c'] 25) := ⟨_, rfl⟩
  have BS : Blk U w.heap.size 25 #[.int .i64 K, .slice A nw c, .slice A' n c'] := by rw [hU]; exact Blk.new _ _ _
  have HBU : Hid (Below w.heap.size w U) := by rw [hU]; exact (Below.refl _ _).alloc (Nat.le_refl _) _
  have HU := Lib.hid hU
  have c1 := objects_any K A A' nw c n c' wd F I BI ib L U (hA.next HBU.out) (hT.next HBU.out) hv hu hall (hR.below HBU.out)
  have p0 := BS.cell 0
  have p1 := BS.cell 1
  have p2 := BS.cell 2
  have pz := BS.lt
  simp at p0 p1 p2
  obtain ⟨q0, q1⟩ := tdiv5 a0 a1
  clear hA hT hU hv hu hall hR
  go_enter Try.func14, Try.ntmps14
  go_wp2_with fail
  rw [← HU.out]
  refine c1.mono ?_
  rintro e U1 ⟨l, ⟨A3, c3, rfl, hn3, hb1⟩, hobs, hlen⟩
  have BS1 := BS.next hb1
  have HB1 := Lib.hid (below_next HBU.out (Nat.le_refl _) hb1)
  have HN3 := Lib.hid hn3
  have HOB := Lib.hid hobs
  clear hb1 hn3 hobs p0 p1 p2 pz
  have p0 := BS1.cell 0
  have p1 := BS1.cell 1
  have p2 := BS1.cell 2
  have pz := BS1.lt
  simp at p0 p1 p2
  have s2 : (nw : Int) + 2 ≤ 9223372036854775807 := by omega
  obtain ⟨z, hz, z0, z1⟩ : ∃ z, (a.tdiv 5) % ((nw : Int) + 2) = z ∧ 0 ≤ z ∧ z < (nw : Int) + 2 := ⟨_, rfl, Int.emod_nonneg _ (by omega), Int.emod_lt_of_pos _ (by omega)⟩
  have CM1 := mod_any (a.tdiv 5) ((nw : Int) + 2) (by omega) s2 q0 q1
  rw [hz] at CM1
  clear hz
  by_cases h0 : l.length = 0
  · have hb0 : ((l.length : Int) == 0) = true := by simp [h0]
    clear h0
    go_wp2_with fail
    refine (CM1 _).mono ?_
    rintro e w' ⟨rfl, rfl⟩
    go_wp2_with fail
    go_ret
    exact ⟨_, rfl, by constructor <;> omega, HB1.out⟩
  · have hb0 : ((l.length : Int) == 0) = false := by rw [beq_eq_false_iff_ne]; omega
    have CM2 := mod_any a 5 (by decide) (by decide) a0 a1
    obtain ⟨m5, hm5⟩ : ∃ m, m = a % 5 := ⟨_, rfl⟩
    rw [← hm5] at CM2
    clear hm5
    by_cases h5 : m5 = 0
    · have hb5 : (m5 == 0) = true := by simpa using h5
      go_wp2_with fail
      refine (CM2 _).mono ?_
      rintro e w' ⟨rfl, rfl⟩
      go_wp2_with fail
      refine (CM1 _).mono ?_
      rintro e w' ⟨rfl, rfl⟩
      go_wp2_with fail
      go_ret
      exact ⟨_, rfl, by constructor <;> omega, HB1.out⟩
    · have hb5 : (m5 == 0) = false := by simpa using h5
      have CM3 := mod_any (a.tdiv 5) (l.length : Int) (by omega) (by omega) q0 q1
      obtain ⟨j, hj, hjl⟩ : ∃ j : Nat, (a.tdiv 5) % (l.length : Int) = j ∧ j < l.length := by
        have h1 := Int.emod_nonneg (a.tdiv 5) (show (l.length : Int) ≠ 0 by omega)
        have h2 := Int.emod_lt_of_pos (a.tdiv 5) (show 0 < (l.length : Int) by omega)
        exact ⟨((a.tdiv 5) % (l.length : Int)).toNat, by omega, by omega⟩
      rw [hj] at CM3
      obtain ⟨b, o, rfl, hb, hcj⟩ := HN3.out.at_ j hjl
      obtain ⟨x, hx⟩ : ∃ x : Int, x = numF l j := ⟨_, rfl⟩
      rw [← hx] at hcj
      have hxb : In8 x := by
        have h1 := HOB.out.lt hjl
        have h2 : numF l j = ((l.getD j 0 : Nat) : Int) := rfl
        rw [hx, h2]
        constructor <;> omega
      have hj2 : 0 ≤ (j : Int) ∧ (j : Int) < (l.length : Int) := by omega
      have HXB := Lib.hid hxb
      clear hj hx hxb
      go_wp2_with fail
      refine (CM2 _).mono ?_
      rintro e w' ⟨rfl, rfl⟩
      go_wp2_with fail
      refine (CM3 _).mono ?_
      rintro e w' ⟨rfl, rfl⟩
      go_wp2_with fail
      go_ret
      exact ⟨_, rfl, HXB.out, HB1.out⟩
end Go.Proofs.Ytfjdafnejhgijaa
