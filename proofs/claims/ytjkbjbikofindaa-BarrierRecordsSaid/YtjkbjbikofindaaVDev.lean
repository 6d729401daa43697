/-
  Layer 19: the developers' Needs and Record.
-/
import Derived.Test.YtjkbjbikofindaaVDpr
import Derived.Test.YtjkbjbikofindaaRDv
import Derived.Test.YtjkbjbikofindaaRDe
import Derived.Test.YtjkbjbikofindaaRDg
namespace Go.Proofs.Ytjkbjbikofindaa
open Go.RowKit
set_option maxRecDepth 100000
set_option linter.unusedVariables false

set_option maxHeartbeats 2000000 in
theorem devNeeds_any (K nw c n c' : Nat) (A A' : Option Addr) (wd : Nat → Int) (F : Nat → Fr) (slot x : Int) (w : World) (hA : Arr w w.heap.size A nw c wd) (hT : Tab w w.heap.size A' n c' F) (hv : ValidP K nw wd n F) (x0 : 0 ≤ x) (x1 : x < 18446744073709551616) (s0 : -9223372036854775808 ≤ slot) (s1 : slot ≤ 9223372036854775807) :
    Calls Try.prog 12 #[.agg #[.int .i64 K, .slice A nw c, .slice A' n c'], .int .i64 slot, .int .u64 x] w fun e w' => e = .returned (.bool (prB K nw F slot x)) ∧ Below w.heap.size w w' := by
  obtain ⟨U, hU⟩ : ∃ U, U = w.alloc (.cells #[.int .i64 K, .slice A nw c, .slice A' n c'] 25) := ⟨_, rfl⟩
  have BU : Blk U w.heap.size 25 #[.int .i64 K, .slice A nw c, .slice A' n c'] := by rw [hU]; exact Blk.new _ _ _
  have hb0 : Below w.heap.size w U := by rw [hU]; exact (Below.refl _ _).alloc (Nat.le_refl _) _
  have HB := Lib.hid hb0
  have HU := Lib.hid hU
  have HP := Lib.hid (devPair_any K nw c n c' A A' wd F slot x U (hT.next hb0) hv x0 x1 s0 s1)
  have p0 := BU.cell 0
  have p1 := BU.cell 1
  have p2 := BU.cell 2
  have pz := BU.lt
  simp at p0 p1 p2
  obtain ⟨b, hb⟩ : ∃ y, y = prB K nw F slot x := ⟨_, rfl⟩
  unfold DPairOf at HP
  rw [← hb] at HP
  rw [← hb]
  clear hU BU hb0 hT hA hv hb
  go_enter Try.func12, Try.ntmps12
  go_upto_region 1 with fail
  rw [← HU.out]
  go_wp2_with fail
  refine HP.out.mono ?_
  rintro e W1 ⟨f, g, rfl, _, hb1⟩
  have HB1 := Lib.hid (below_next HB.out (Nat.le_refl _) hb1)
  clear hb1
  go_wp2_with fail
  go_ret
  exact ⟨rfl, HB1.out⟩

theorem drpS_nil (L : List SetR) : drpS [] L = L := by
  unfold drpS
  simp

theorem pr_nums {K nw n : Nat} {F : Nat → Fr} {slot x : Int} (hn : n ≤ 64) (hw : nw = n * 2 ^ K) (h : prB K nw F slot x = true) : numP (prF K nw slot x) ∧ numP (prG K nw slot x) ∧ 0 ≤ slot := by
  have ho : prOk nw slot x = true := by
    unfold prB at h
    simp only [Bool.and_eq_true] at h
    exact h.1.1.1
  obtain ⟨h1, h2, h3, h4⟩ := prOk_of ho
  obtain ⟨y, hy, hyn⟩ := wit_frame h1 h2 hw
  obtain ⟨z, hz, hzn⟩ := wit_frame (x := slot + 1) (by omega) (by omega) hw
  rw [show slot + 1 - 1 = slot by omega] at hz
  unfold prF prG numP
  rw [if_pos ho, if_pos ho, hy, hz]
  omega

set_option maxHeartbeats 4000000 in
theorem devRecord_any (k : Int) (A A' AS : Option Addr) (nw c n c' cS : Nat) (wd : Nat → Int) (F : Nat → Fr) (L : List SetR) (slot x : Int) (w : World) (hA : Arr w w.heap.size A nw c wd) (hT : Tab w w.heap.size A' n c' F) (hL : TArr w (Lt w.heap.size) AS cS L) (x0 : 0 ≤ x) (x1 : x < 18446744073709551616) (s0 : -9223372036854775808 ≤ slot) (s1 : slot ≤ 9223372036854775807) (hf : Few18 1048000 L) :
    Calls Try.prog 15 #[.agg #[.int .i64 k, .slice A nw c, .slice A' n c'], .slice AS L.length cS, .int .i64 slot, .int .u64 x] w (RecOf k nw n wd F L slot x w) := by
  obtain ⟨U, hU⟩ : ∃ U, U = w.alloc (.cells #[.int .i64 k, .slice A nw c, .slice A' n c'] 25) := ⟨_, rfl⟩
  have BU : Blk U w.heap.size 25 #[.int .i64 k, .slice A nw c, .slice A' n c'] := by rw [hU]; exact Blk.new _ _ _
  have hb0 : Below w.heap.size w U := by rw [hU]; exact (Below.refl _ _).alloc (Nat.le_refl _) _
  have HB := Lib.hid hb0
  have HU := Lib.hid hU
  have HT := Lib.hid (hT.next hb0)
  have HL := Lib.hid (hL.next hb0)
  have HF := Lib.hid hf
  have p0 := BU.cell 0
  have p1 := BU.cell 1
  have p2 := BU.cell 2
  have pz := BU.lt
  simp at p0 p1 p2
  obtain ⟨q, hq⟩ : ∃ q, q = validB k nw wd n F := ⟨_, rfl⟩
  have HV := Lib.hid (valid_any k A A' nw c n c' wd F U ((hA.below hb0).more hb0.size) HT.out)
  rw [← hq] at HV
  have HQ := Lib.hid hq
  clear hU BU hb0 hA hT hL hf hq
  go_enter Try.func15, Try.ntmps15
  go_upto_region 1 with fail
  rw [← HU.out]
  go_wp2_with fail
  refine HV.out.mono ?_
  rintro e W1 ⟨rfl, hb1⟩
  have HB1 := Lib.hid hb1
  have HBB := Lib.hid (below_next HB.out (Nat.le_refl _) hb1)
  clear hb1
  cases q with
  | false =>
    have HNO : Hid (¬ ValidP k nw wd n F) := Lib.hid fun h => by have h1 := HQ.out; rw [validB_yes h] at h1; exact absurd h1 (by decide)
    go_wp2_with fail
    go_ret2
    exact ⟨_, _, rfl, HBB.out, .inr ⟨fun h => HNO.out h.1, rfl, rfl⟩⟩
  | true =>
    have hvp : ValidP k nw wd n F := Classical.byContradiction fun h => by have h1 := HQ.out; rw [validB_no h] at h1; exact absurd h1 (by decide)
    have HVP := Lib.hid hvp
    have HL1 := Lib.hid (HL.out.next HB1.out)
    go_wp2_with fail
    refine (devValid_any AS cS L W1 HL1.out).mono ?_
    rintro e W2 ⟨q2, rfl, hq2, hb2⟩
    have HQ2 := Lib.hid hq2
    have HB2 := Lib.hid (below_next HB1.out (Nat.le_refl _) hb2)
    clear hq2 hb2
    cases q2 with
    | false =>
      go_wp2_with fail
      go_ret2
      exact ⟨_, _, rfl, below_next HB.out (Nat.le_refl _) HB2.out, .inr ⟨fun h => absurd (HQ2.out.2 h.2) (by decide), rfl, rfl⟩⟩
    | true =>
      have HVS := Lib.hid (HQ2.out.1 (by first | rfl | trivial))
      obtain ⟨K, hk, hK3, hK8, hn1, hn64, hnw⟩ := valid_shape hvp
      subst hk
      have HP := Lib.hid (devPair_any K nw c n c' A A' wd F slot x W2 (HT.out.next HB2.out) hvp x0 x1 s0 s1)
      have HNM := Lib.hid (fun h => pr_nums (K := K) (nw := nw) (n := n) (F := F) (slot := slot) (x := x) hn64 hnw h)
      have p0 := (HB2.out.cell (p := ⟨w.heap.size, 0, none⟩) pz).trans p0
      have p1 := (HB2.out.cell (p := ⟨w.heap.size, 1, none⟩) pz).trans p1
      have p2 := (HB2.out.cell (p := ⟨w.heap.size, 2, none⟩) pz).trans p2
      obtain ⟨b, hb⟩ : ∃ y, y = prB K nw F slot x := ⟨_, rfl⟩
      unfold DPairOf at HP
      rw [← hb] at HP HNM
      have HNT := Lib.hid (show noteS (Int.toNat (K : Int)) nw F slot x L = if b = true then putS (prF K nw slot x) (prG K nw slot x) slot L else L by rw [hb, Int.toNat_natCast]; rfl)
      clear hvp hK3 hK8 hn1 hn64 hnw hb
      go_wp2_with fail
      refine HP.out.mono ?_
      rintro e W3 ⟨f, g, rfl, hfg, hb3⟩
      have HB3 := Lib.hid (below_next HB2.out (Nat.le_refl _) hb3)
      have HFG := Lib.hid hfg
      have HL3 := Lib.hid (HL.out.next HB3.out)
      clear hb3 hfg p0 p1 p2
      cases b with
      | false =>
        have HC := Lib.hid (devDrop_any AS cS L W3 HL3.out none 0 [] (SArr.nil _ _) (by simp) HF.out.1 HF.out.2 HVS.out)
        rw [drpS_nil] at HC
        go_wp2_with fail
        refine HC.out.mono ?_
        rintro e W4 ⟨A9, c9, rfl, h9, hb9⟩
        have H9 := Lib.hid h9
        have HB9 := Lib.hid (below_next HB3.out (Nat.le_refl _) hb9)
        have HNE := Lib.hid (HNT.out.trans (if_neg (by decide)))
        clear h9 hb9
        go_wp2_with fail
        go_ret2
        exact ⟨_, _, rfl, below_next HB.out (Nat.le_refl _) HB9.out, .inl ⟨HVP.out, HVS.out, rfl, A9, c9, by rw [HNE.out]; rfl, by rw [HNE.out]; exact H9.out⟩⟩
      | true =>
        obtain ⟨rfl, rfl⟩ := HFG.out rfl
        have HC := Lib.hid (devInsert_any AS cS L W3 HL3.out (prF K nw slot x) (prG K nw slot x) slot HF.out.1 HF.out.2)
        obtain ⟨f, hfe⟩ : ∃ y, y = prF K nw slot x := ⟨_, rfl⟩
        obtain ⟨g, hge⟩ : ∃ y, y = prG K nw slot x := ⟨_, rfl⟩
        rw [← hfe, ← hge] at HC HNM HNT ⊢
        have HNE := Lib.hid (HNT.out.trans (if_pos rfl))
        clear hfe hge
        go_wp2_with fail
        refine HC.out.mono ?_
        rintro e W4 ⟨v, r, rfl, hb9, h9⟩
        have HB9 := Lib.hid (below_next HB3.out (Nat.le_refl _) hb9)
        rcases h9 with ⟨_, _, _, _, rfl, A9, c9, rfl, h9⟩ | ⟨h, _⟩
        rotate_left
        · exact absurd ⟨HVS.out, HNM.out (by trivial)⟩ h
        have H9 := Lib.hid h9
        clear h9 hb9
        go_wp2_with fail
        go_ret2
        exact ⟨_, _, rfl, below_next HB.out (Nat.le_refl _) HB9.out, .inl ⟨HVP.out, HVS.out, rfl, A9, c9, by rw [HNE.out]; rfl, by rw [HNE.out]; exact H9.out⟩⟩
end Go.Proofs.Ytjkbjbikofindaa
