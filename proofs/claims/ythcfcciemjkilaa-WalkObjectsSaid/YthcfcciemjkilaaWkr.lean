/-
  Contracts of the reference of layer 10: All, Objects, Live, Holds, for every raw space and every increment.
-/
import Derived.Test.YthcfcciemjkilaaWkp
import Derived.Test.YthcfcciemjkilaaOall
import Derived.Test.YthcfcciemjkilaaBmp
namespace Go.Proofs.Ythcfcciemjkilaa
open Go.RowKit
set_option maxRecDepth 100000
set_option linter.unusedVariables false

/-- What All answers. -/
def AllOutY (K : Nat) (wd : Nat → Int) (F : Nat → Fr) (p : Int) (W : Nat) (w : World) (e : Ending) (w' : World) : Prop := ∃ (l : List Nat) (y : Int), GivesLst l y w e w' ∧ ObjsR K wd F p W l y
set_option maxHeartbeats 4000000 in
theorem refAllY_any (K : Nat) (A A' : Option Addr) (nw c n c' : Nat) (wd : Nat → Int) (F : Nat → Fr) (sq bt la : Int) (p m W : Nat) (w : World) (hA : Arr w w.heap.size A nw c wd) (hT : Tab w w.heap.size A' n c' F) (hv : ValidP K nw wd n F) (hu : U64w nw wd)
    (hp : p < n) (ho : (F p).ow ≠ -1) (hl : LenP F p m) (hW : W ≤ m * 2 ^ K) (hm : m ≤ n + 1) :
    Calls Try.prog 31 #[.agg #[.int .i64 K, .slice A nw c, .slice A' n c'], .agg #[.int .i64 sq, .int .i64 bt, .int .i64 p, .int .i64 la, .int .i64 W]] w (AllOutY K wd F p W w) := by
  obtain ⟨i0, hi0, hz0, hz1, hz2⟩ := info_parts int_info
  obtain ⟨n2, n64, nw0, nw1⟩ := sp_bounds hv
  obtain ⟨_, k8⟩ := shB_yes hv.1
  have hW2 : W ≤ 16640 := by
    have h := Nat.mul_le_mul (show m ≤ 65 by omega) (show 2 ^ K ≤ 256 from Nat.pow_le_pow_right (n := 2) (by decide) (show K ≤ 8 by omega))
    omega
  have hp2 := prod_bd (n := p) (k := K) (by omega) (by omega)
  obtain ⟨U, hU⟩ : ∃ U, U = (w.alloc (.cells #[.int .i64 K, .slice A nw c, .slice A' n c'] 25)).alloc (.cells #[.int .i64 sq, .int .i64 bt, .int .i64 p, .int .i64 la, .int .i64 W] 27) := ⟨_, rfl⟩
  have BS : Blk U w.heap.size 25 #[.int .i64 K, .slice A nw c, .slice A' n c'] := by rw [hU]; exact (Blk.new _ _ _).alloc _
  have BI : Blk U (w.heap.size + 1) 27 #[.int .i64 sq, .int .i64 bt, .int .i64 p, .int .i64 la, .int .i64 W] := by rw [hU]; exact Blk.newAt _ _ _ _ (by simp)
  have HBU : Hid (Below w.heap.size w U) := by rw [hU]; exact ((Below.refl _ _).alloc (Nat.le_refl _) _).alloc (by simp) _
  have HU := Lib.hid hU
  have HA := Lib.hid (hA.next HBU.out)
  have HT := Lib.hid (hT.next HBU.out)
  have HV := Lib.hid hv
  have HL := Lib.hid hl
  have HO := Lib.hid ho
  have eb : addrP F K p 0 = (p : Int) * 2 ^ K := by rw [addr_self (Nat.two_pow_pos K)]; simp
  have GO := Lib.hid (show ∀ (Q : Nat) (W' : World), Q < W → Below U.heap.size U W' → Calls Try.prog 49 #[.agg #[.int .i64 K, .slice A nw c, .slice A' n c'], .int .i64 ((p : Int) * 2 ^ K), .int .i64 Q] W' (Gives2 (addrP F K p Q) 0 W') from fun Q W' hQ hW' => by
    have h := refGo5_any K A A' nw c n c' wd F ((p : Int) * 2 ^ K) Q W' (HT.out.next hW') HV.out (by omega) (by omega)
    have hs := addr_stp hv hp ho hl (P := 0) (Q := Q) (by omega)
    rw [eb, Nat.zero_add] at hs
    rw [hs.1, hs.2] at h
    exact h)
  have LK := Lib.hid (show ∀ (x : Nat) (W' : World), Below U.heap.size U W' → Calls Try.prog 32 #[.agg #[.int .i64 K, .slice A nw c, .slice A' n c'], .int .i64 x] W' (Gives3 (shpR K nw wd n F x) (shpD K nw wd n F x) (shpE K nw wd n F x) W') from fun x W' hW' =>
    refLook_any K A A' nw c n c' wd F x W' (HA.out.next hW') (HT.out.next hW') hv hu)
  have HU64 := Lib.hid hu
  have HNX := Lib.hid (fun (j Q x : Nat) (h1 : posN K wd F p j = Q) (h2 : Q < W) (h3 : addrP F K p Q = x) => next_shape hv hu hp ho hl hW h1 h2 h3)
  clear hA hT hU hv ho hl eb hu
  go_enter Try.func31, Try.ntmps31
  go_wp2
  rw [← HU.out]
  go_loopw [6, 7, 8, 9, 10, 11, 12] (fun v at_ _ _ _ _ _ wr => ∃ (l : List Nat) (Q i : Nat), Q ≤ W ∧ at_ = .int .i64 Q ∧ (l = lstN K wd F p i ∧ Hds K wd F p i ∧ posN K wd F p i = Q) ∧ wr.ownsRow U.heap.size 3 1 v l.length (numL l) ∧ Below U.heap.size U wr ∧ ∃ A c, v = .slice A l.length c) (fun _ at_ _ _ _ _ _ _ => W - (intOf at_).toNat)
  case atStart => exact ⟨[], 0, 0, by omega, rfl, ⟨rfl, fun i hi => absurd hi (by omega), rfl⟩, World.ownsRow_nil _ _ _ _, Below.refl _ _, none, 0, rfl⟩
  case round =>
    obtain ⟨l, Q, i, hQ, rfl, hrun, hown, hb, A2, c2, rfl⟩ := hrel
    have BS1 := BS.next hb
    have BI1 := BI.next hb
    have HRUN := Lib.hid hrun
    have HOW := Lib.hid hown
    have HB := Lib.hid hb
    have hlen : l.length ≤ Q := by rw [hrun.1, lstN_length]; have := posN_ge (K := K) (wd := wd) (F := F) (p := p) i; omega
    clear hrun hown hb
    by_cases hlt : Q < W
    · have hlt2 : (Q : Int) < W := by omega
      have q0 := BS1.cell 0
      have q1 := BS1.cell 1
      have q2 := BS1.cell 2
      have qz := BS1.lt
      have j2 := BI1.cell 2
      have j4 := BI1.cell 4
      have jz := BI1.lt
      simp at q0 q1 q2 j2 j4
      have G := GO.out Q wr hlt HB.out
      obtain ⟨z, r, ea, _, _, _, hnw, _⟩ := addr_in HV.out hp HO.out HL.out (show Q < m * 2 ^ K by omega)
      obtain ⟨x, hx⟩ : ∃ x : Nat, addrP F K p Q = x := ⟨_, ea⟩
      have hxnw : x < nw := by rw [hx] at ea; omega
      rw [hx] at G
      have HXX := Lib.hid hx
      have HNY := Lib.hid (HNX.out i Q x HRUN.out.2.2 hlt hx)
      clear ea hnw hx
      go_wp2_with fail
      refine G.mono ?_
      rintro e W1 ⟨rfl, hb1⟩
      have HB1 := Lib.hid (below_next HB.out (Nat.le_refl _) hb1)
      have BS2 := BS1.next hb1
      have BI2 := BI1.next hb1
      have HOW1 := Lib.hid (ownsRow_below8 HOW.out hb1)
      clear hb1 q0 q1 q2 qz j2 j4 jz BS1 BI1 G
      have q0 := BS2.cell 0
      have q1 := BS2.cell 1
      have q2 := BS2.cell 2
      have qz := BS2.lt
      simp at q0 q1 q2
      have L := LK.out x W1 HB1.out
      have hr := shp_range (s := K) (n := n) (F := F) (a := (x : Int)) HU64.out
      obtain ⟨R, hR⟩ : ∃ R : Nat, shpR K nw wd n F x = R := ⟨(shpR K nw wd n F x).toNat, by omega⟩
      obtain ⟨D, hD⟩ : ∃ D : Nat, shpD K nw wd n F x = D := ⟨(shpD K nw wd n F x).toNat, by omega⟩
      obtain ⟨y, hy⟩ : ∃ y, shpE K nw wd n F x = y := ⟨_, rfl⟩
      rw [hR, hD, hy] at L
      rw [hR, hD] at hr
      have HR := Lib.hid hR
      have HD := Lib.hid hD
      have HY := Lib.hid hy
      clear hR hD hy
      go_wp2_with fail
      refine L.mono ?_
      rintro e W2 ⟨rfl, hb2⟩
      have HB2 := Lib.hid (below_next HB1.out (Nat.le_refl _) hb2)
      have BI3 := BI2.next hb2
      have HOW2 := Lib.hid (ownsRow_below8 HOW1.out hb2)
      have j4 := BI3.cell 4
      have jz := BI3.lt
      simp at j4
      clear hb2 q0 q1 q2 qz L BS2 BI2
      by_cases hy0 : y = 0
      · by_cases hfit : Q + 1 + R + D ≤ W
        · subst hy0
          have hfit2 : ¬ ((Q : Int) + 1 + R + D > W) := by omega
          have hob := row_block HOW2.out
          have zz : U.heap.size ≤ W2.heap.size := HB2.out.size
          go_wp2_with (at_builtin; refine wpList_append_own _ rfl _ _ 28 rfl U.heap.size 3 i0 (.int .i64 0) 1 8 Try.underlying28 hi0 hz0 hz1 hz2 rfl (by decide) _ l.length (numL l) rfl (HOW2.out.alloc _) ⟨W2.heap.size, 0, none⟩ 1 1 [.int .i64 x] rfl rfl ?c1 (by simp [Value.oneCell']) (by simp only [maxLen]; omega) (by omega) ?c5 ?_)
          case c1 => exact one_news (by go_simp)
          case c5 => simp; omega
          intro v' w1 hown' hgrow _
          have e1 : numL l ++ [.int .i64 x] = numL (l ++ [x]) := by simp [numL]
          have e2 : l.length + 1 = (l ++ [x]).length := by simp
          rw [e1] at hown'
          obtain ⟨A1, c1', rfl, _⟩ := row_slice hown'
          have hb1' : Below U.heap.size U w1 := (HB2.out.alloc HB2.out.size _).grown hgrow (by simp; omega) hob
          have HN := Lib.hid (show w1.ownsRow U.heap.size 3 1 (.slice A1 (l.length + 1) c1') (l ++ [x]).length (numL (l ++ [x])) by rw [← e2]; exact hown')
          have HBN := Lib.hid hb1'
          have HLEN := Lib.hid e2
          have HR2 := Lib.hid (show l ++ [x] = lstN K wd F p (i + 1) ∧ Hds K wd F p (i + 1) ∧ posN K wd F p (i + 1) = Q + 1 + R + D from by
            obtain ⟨n1, _, n3⟩ := HNY.out
            obtain ⟨n4, n5⟩ := n3 HY.out
            rw [HR.out, HD.out] at n5
            exact ⟨by rw [lstN_succ, n1, HRUN.out.1], HRUN.out.2.1.more (by rw [n1]; exact n4), by omega⟩)
          clear hown' hgrow hob hb1' e1 e2
          go_wp2
          exact ⟨⟨l ++ [x], Q + 1 + R + D, i + 1, hfit, congrArg (Value.int IntKind.i64) (by omega), HR2.out, HN.out, HBN.out, A1, c1', by rw [← HLEN.out]⟩, by simp [intOf]; omega⟩
        · subst hy0
          have hfit2 : (Q : Int) + 1 + R + D > W := by omega
          go_wp2_with fail
          go_ret2
          exact ⟨[], 12, gives_none (below_next HBU.out (Nat.le_refl _) HB2.out), i, HRUN.out.2.1, by have := HRUN.out.2.2; omega, .inr ⟨by have := HRUN.out.2.2; omega, fun h => by
            have h2 := (HNY.out.2.1.2 h).2
            rw [HR.out, HD.out] at h2
            omega, rfl, rfl⟩⟩
      · have hne : (y != 0) = true := by simpa using hy0
        have HY0 := Lib.hid hy0
        clear hy0
        go_wp2_with fail
        go_ret2
        exact ⟨[], 12, gives_none (below_next HBU.out (Nat.le_refl _) HB2.out), i, HRUN.out.2.1, by have := HRUN.out.2.2; omega, .inr ⟨by have := HRUN.out.2.2; omega, fun h => HY0.out (HY.out.symm.trans (HNY.out.2.1.2 h).1), rfl, rfl⟩⟩
    · obtain rfl : Q = W := by omega
      have hlt2 : ¬ (Q : Int) < Q := by omega
      have j4 := BI1.cell 4
      have jz := BI1.lt
      simp at j4
      obtain ⟨A3, c3, e3, hn3, _⟩ := nums_of_row HOW.out
      injection e3 with e3 _ e4
      subst e3 e4
      have HN3 := Lib.hid hn3
      clear hn3
      go_wp2
      go_ret2
      exact ⟨l, 0, ⟨A2, c2, rfl, HN3.out, below_next HBU.out (Nat.le_refl _) HB.out⟩, i, HRUN.out.2.1, by have := HRUN.out.2.2; omega, .inl ⟨HRUN.out.2.2, rfl, HRUN.out.1⟩⟩
set_option maxHeartbeats 1000000 in
theorem refAllZ_any (K : Nat) (A A' : Option Addr) (nw c n c' : Nat) (sq bt : Int) (wd : Nat → Int) (F : Nat → Fr) (w : World) :
    Calls Try.prog 31 #[.agg #[.int .i64 K, .slice A nw c, .slice A' n c'], .agg #[.int .i64 sq, .int .i64 bt, .int .i64 (-1), .int .i64 (-1), .int .i64 0]] w (AllOutY K wd F (-1) 0 w) := by
  obtain ⟨U, hU⟩ : ∃ U, U = (w.alloc (.cells #[.int .i64 K, .slice A nw c, .slice A' n c'] 25)).alloc (.cells #[.int .i64 sq, .int .i64 bt, .int .i64 (-1), .int .i64 (-1), .int .i64 0] 27) := ⟨_, rfl⟩
  have BI : Blk U (w.heap.size + 1) 27 #[.int .i64 sq, .int .i64 bt, .int .i64 (-1), .int .i64 (-1), .int .i64 0] := by rw [hU]; exact Blk.newAt _ _ _ _ (by simp)
  have HBU : Hid (Below w.heap.size w U) := by rw [hU]; exact ((Below.refl _ _).alloc (Nat.le_refl _) _).alloc (by simp) _
  have HU := Lib.hid hU
  clear hU
  have j4 := BI.cell 4
  have jz := BI.lt
  simp at j4
  go_enter Try.func31, Try.ntmps31
  go_wp2
  rw [← HU.out]
  go_loopw [6, 7, 8, 9, 10, 11, 12] (fun v at_ _ _ _ _ _ wr => at_ = .int .i64 0 ∧ v = .slice none 0 0 ∧ wr = U) (fun _ _ _ _ _ _ _ _ => 0)
  case atStart => exact ⟨rfl, rfl, rfl⟩
  case round =>
    obtain ⟨rfl, rfl, rfl⟩ := hrel
    go_wp2
    go_ret2
    exact ⟨[], 0, gives_none HBU.out, objsR_zero⟩
set_option maxHeartbeats 1000000 in
/-- Objects of the reference of layer 10. -/
theorem refObjs_any (s : Int) (A A' : Option Addr) (nw c n c' : Nat) (wd : Nat → Int) (F : Nat → Fr) (sq bt fi la wo : Int) (w : World) (hA : Arr w w.heap.size A nw c wd) (hT : Tab w w.heap.size A' n c' F) (hu : U64w nw wd) :
    Calls Try.prog 13 #[.agg #[.int .i64 s, .slice A nw c, .slice A' n c'], .agg #[.int .i64 sq, .int .i64 bt, .int .i64 fi, .int .i64 la, .int .i64 wo]] w fun e w' => ∃ l y, GivesLst l y w e w' ∧ ObjsX s nw wd n F sq bt fi la wo l y := by
  have HA := Lib.hid hA
  have HT := Lib.hid hT
  obtain ⟨U, hU⟩ : ∃ U, U = (w.alloc (.cells #[.int .i64 s, .slice A nw c, .slice A' n c'] 25)).alloc (.cells #[.int .i64 sq, .int .i64 bt, .int .i64 fi, .int .i64 la, .int .i64 wo] 27) := ⟨_, rfl⟩
  have BS : Blk U w.heap.size 25 #[.int .i64 s, .slice A nw c, .slice A' n c'] := by rw [hU]; exact (Blk.new _ _ _).alloc _
  have BI : Blk U (w.heap.size + 1) 27 #[.int .i64 sq, .int .i64 bt, .int .i64 fi, .int .i64 la, .int .i64 wo] := by rw [hU]; exact Blk.newAt _ _ _ _ (by simp)
  have HBU : Hid (Below w.heap.size w U) := by rw [hU]; exact ((Below.refl _ _).alloc (Nat.le_refl _) _).alloc (by simp) _
  have HU := Lib.hid hU
  have p0 := BS.cell 0
  have p1 := BS.cell 1
  have p2 := BS.cell 2
  simp at p0 p1 p2
  clear hA hT hU
  obtain ⟨b, hb⟩ : ∃ b, b = validB s nw wd n F := ⟨_, rfl⟩
  have HBV := Lib.hid hb
  clear hb
  have CV := refValid_any s A A' nw c n c' wd F U (HA.out.next HBU.out) (HT.out.next HBU.out)
  rw [← HBV.out] at CV
  cases b with
  | false =>
    have HI := Lib.hid (incB_no (sq := sq) (bt := bt) (fi := fi) (la := la) (wo := wo) HBV.out.symm)
    clear BS BI
    go_enter Try.func13, Try.ntmps13
    go_wp2_with fail
    rw [← HU.out]
    refine CV.mono ?_
    rintro e U1 ⟨rfl, hb1⟩
    have HB1 := Lib.hid (below_next HBU.out (Nat.le_refl _) hb1)
    clear hb1 CV
    go_wp2_with fail
    go_ret2
    exact ⟨[], 1, gives_none HB1.out, .inl ⟨HI.out, rfl, rfl⟩⟩
  | true =>
    have hv := validB_of HBV.out.symm
    obtain ⟨k, rfl, k3, k8⟩ := valid_nat hv
    have hn := nfB_yes hv.2.1
    have hnw : nw = n * 2 ^ k := by have := hv.2.2.1; rw [Int.toNat_natCast] at this; exact this
    have hpl := prod_le (show n ≤ 64 by omega) (show k ≤ 8 by omega)
    rw [← hnw] at hpl
    have HFV := Lib.hid hv.fv
    have HV := Lib.hid hv
    have HU64 := Lib.hid hu
    clear hv hnw hu
    go_enter Try.func13, Try.ntmps13
    go_wp2_with fail
    rw [← HU.out]
    refine CV.mono ?_
    rintro e U1 ⟨rfl, hb1⟩
    have HB1 := Lib.hid (below_next HBU.out (Nat.le_refl _) hb1)
    have BS1 := Lib.hid (BS.next hb1)
    have BI1 := Lib.hid (BI.next hb1)
    clear hb1 p0 p1 p2 BS BI CV
    have p0 := BS1.out.cell 0
    have p1 := BS1.out.cell 1
    have p2 := BS1.out.cell 2
    have q0 := BI1.out.cell 0
    have q1 := BI1.out.cell 1
    have q2 := BI1.out.cell 2
    have q3 := BI1.out.cell 3
    have q4 := BI1.out.cell 4
    simp at p0 p1 p2 q0 q1 q2 q3 q4
    go_wp2_with fail
    refine (fitsX_any k A A' nw c n c' F sq bt fi la wo U1 (HT.out.next HB1.out) (by omega) HFV.out (by omega) (by omega)).mono ?_
    rintro e U2 ⟨b, rfl, hF, hb2⟩
    have HIB := Lib.hid (incB_of (s := (k : Int)) HBV.out.symm (by rw [Int.toNat_natCast]; exact hF))
    have HB2 := Lib.hid (below_next HB1.out (Nat.le_refl _) hb2)
    have BS2 := Lib.hid (BS1.out.next hb2)
    have BI2 := Lib.hid (BI1.out.next hb2)
    clear hb2 p0 p1 p2 q0 q1 q2 q3 q4 hF BS1 BI1
    cases b with
    | false =>
      go_wp2_with fail
      go_ret2
      exact ⟨[], 1, gives_none HB2.out, .inl ⟨HIB.out.symm, rfl, rfl⟩⟩
    | true =>
      have p0 := BS2.out.cell 0
      have p1 := BS2.out.cell 1
      have p2 := BS2.out.cell 2
      have q0 := BI2.out.cell 0
      have q1 := BI2.out.cell 1
      have q2 := BI2.out.cell 2
      have q3 := BI2.out.cell 3
      have q4 := BI2.out.cell 4
      simp at p0 p1 p2 q0 q1 q2 q3 q4
      have CA : Calls Try.prog 31 #[.agg #[.int .i64 k, .slice A nw c, .slice A' n c'], .agg #[.int .i64 sq, .int .i64 bt, .int .i64 fi, .int .i64 la, .int .i64 wo]] U2 (AllOutY k wd F fi wo.toNat U2) := by
        by_cases hw : 0 < wo
        · obtain ⟨k', p, m, W, ek, _, _, hv', rfl, h1, h2, h3, rfl, h4, h5, h6, _⟩ := inc_chain9 HIB.out.symm hw
          obtain rfl : k = k' := by omega
          rw [Int.toNat_natCast]
          exact refAllY_any k A A' nw c n c' wd F sq bt la p m W U2 (HA.out.next HB2.out) (HT.out.next HB2.out) hv' HU64.out h1 h2 h3 h5 h6
        · obtain ⟨rfl, rfl, rfl⟩ := inc_zero9 HIB.out.symm hw
          exact refAllZ_any k A A' nw c n c' sq bt wd F U2
      go_wp2_with fail
      refine CA.mono ?_
      rintro e U3 ⟨l, y, ⟨A5, c5, rfl, hn5, hb5⟩, hob⟩
      have HN5 := Lib.hid hn5
      have HB5 := Lib.hid (below_next HB2.out (Nat.le_refl _) hb5)
      have HOB := Lib.hid hob
      clear hn5 hb5 hob CA p0 p1 p2 q0 q1 q2 q3 q4
      go_wp2_with fail
      go_ret2
      exact ⟨l, y, ⟨A5, c5, rfl, HN5.out, HB5.out⟩, .inr ⟨HIB.out.symm, by rw [Int.toNat_natCast]; exact HOB.out⟩⟩
end Go.Proofs.Ythcfcciemjkilaa
