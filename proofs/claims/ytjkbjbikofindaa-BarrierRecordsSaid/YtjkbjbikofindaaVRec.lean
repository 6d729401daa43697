/-
  Layer 19: Needs and Record of the reference.
-/
import Derived.Test.YtjkbjbikofindaaVNot
import Derived.Test.YtjkbjbikofindaaMRVal
import Derived.Test.YtjkbjbikofindaaRVal
namespace Go.Proofs.Ytjkbjbikofindaa
open Go.RowKit
set_option maxRecDepth 100000
set_option linter.unusedVariables false

/-- What Record answers. -/
def RecOf (k : Int) (nw n : Nat) (wd : Nat → Int) (F : Nat → Fr) (L : List SetR) (slot x : Int) (w : World) (e : Ending) (w' : World) : Prop :=
  ∃ v r, e = .returned (.tuple #[v, .int .i64 r]) ∧ Below w.heap.size w w' ∧
    ((ValidP k nw wd n F ∧ ValS L ∧ r = 0 ∧ ∃ A c, v = .slice A (noteS k.toNat nw F slot x L).length c ∧ TArr w' (Lt w'.heap.size) A c (noteS k.toNat nw F slot x L)) ∨ (¬ (ValidP k nw wd n F ∧ ValS L) ∧ r = 1 ∧ v = .slice none 0 0))
theorem valid_shape {k : Int} {nw n : Nat} {wd : Nat → Int} {F : Nat → Fr} (h : ValidP k nw wd n F) : ∃ K : Nat, k = (K : Int) ∧ 3 ≤ K ∧ K ≤ 8 ∧ 1 ≤ n ∧ n ≤ 64 ∧ nw = n * 2 ^ K := by
  obtain ⟨h1, h2, h3, _⟩ := h
  simp only [shB, nfB, Bool.and_eq_true, decide_eq_true_eq] at h1 h2
  refine ⟨k.toNat, by omega, by omega, by omega, by omega, by omega, h3⟩

set_option maxHeartbeats 2000000 in
theorem needsR_any (K nw c n c' : Nat) (A A' : Option Addr) (F : Nat → Fr) (slot x : Int) (w : World) (hT : Tab w w.heap.size A' n c' F) (hK : K ≤ 8) (hn : n ≤ 64) (hw : nw = n * 2 ^ K) (x0 : 0 ≤ x) (x1 : x < 18446744073709551616) :
    Calls Try.prog 13 #[.agg #[.int .i64 K, .slice A nw c, .slice A' n c'], .int .i64 slot, .int .u64 x] w fun e w' => e = .returned (.bool (prB K nw F slot x)) ∧ Below w.heap.size w w' := by
  obtain ⟨U, hU⟩ : ∃ U, U = w.alloc (.cells #[.int .i64 K, .slice A nw c, .slice A' n c'] 25) := ⟨_, rfl⟩
  have BU : Blk U w.heap.size 25 #[.int .i64 K, .slice A nw c, .slice A' n c'] := by rw [hU]; exact Blk.new _ _ _
  have hb0 : Below w.heap.size w U := by rw [hU]; exact (Below.refl _ _).alloc (Nat.le_refl _) _
  have HB := Lib.hid hb0
  have HU := Lib.hid hU
  have HP := Lib.hid (pair_any K nw c n c' A A' F slot x U (hT.next hb0) hK hn hw x0 x1)
  have p0 := BU.cell 0
  have p1 := BU.cell 1
  have p2 := BU.cell 2
  have pz := BU.lt
  simp at p0 p1 p2
  obtain ⟨f, hf⟩ : ∃ y, y = prF K nw slot x := ⟨_, rfl⟩
  obtain ⟨g, hg⟩ : ∃ y, y = prG K nw slot x := ⟨_, rfl⟩
  obtain ⟨b, hb⟩ : ∃ y, y = prB K nw F slot x := ⟨_, rfl⟩
  unfold PairOf at HP
  rw [← hf, ← hg, ← hb] at HP
  rw [← hb]
  clear hU BU hb0 hT hw hf hg hb
  go_enter Try.func13, Try.ntmps13
  go_upto_region 1 with fail
  rw [← HU.out]
  go_wp2_with fail
  refine HP.out.mono ?_
  rintro e W1 ⟨rfl, hb1⟩
  have HB1 := Lib.hid (below_next HB.out (Nat.le_refl _) hb1)
  clear hb1
  go_wp2_with fail
  go_ret
  exact ⟨rfl, HB1.out⟩

set_option maxHeartbeats 4000000 in
theorem recordR_any (k : Int) (A A' AS : Option Addr) (nw c n c' cS : Nat) (wd : Nat → Int) (F : Nat → Fr) (L : List SetR) (slot x : Int) (w : World) (hA : Arr w w.heap.size A nw c wd) (hT : Tab w w.heap.size A' n c' F) (hL : TArr w (Lt w.heap.size) AS cS L) (x0 : 0 ≤ x) (x1 : x < 18446744073709551616) (hf : Few18 1048000 L) :
    Calls Try.prog 16 #[.agg #[.int .i64 k, .slice A nw c, .slice A' n c'], .slice AS L.length cS, .int .i64 slot, .int .u64 x] w (RecOf k nw n wd F L slot x w) := by
  obtain ⟨U, hU⟩ : ∃ U, U = w.alloc (.cells #[.int .i64 k, .slice A nw c, .slice A' n c'] 25) := ⟨_, rfl⟩
  have BU : Blk U w.heap.size 25 #[.int .i64 k, .slice A nw c, .slice A' n c'] := by rw [hU]; exact Blk.new _ _ _
  have hb0 : Below w.heap.size w U := by rw [hU]; exact (Below.refl _ _).alloc (Nat.le_refl _) _
  have HB := Lib.hid hb0
  have HU := Lib.hid hU
  have HBU := Lib.hid BU
  have HA := Lib.hid (show Arr U U.heap.size A nw c wd from (hA.below hb0).more hb0.size)
  have HT := Lib.hid (hT.next hb0)
  have HL := Lib.hid (hL.next hb0)
  have HF := Lib.hid hf
  have p0 := BU.cell 0
  have p1 := BU.cell 1
  have p2 := BU.cell 2
  have pz := BU.lt
  simp at p0 p1 p2
  obtain ⟨q, hq⟩ : ∃ q, q = validB k nw wd n F := ⟨_, rfl⟩
  have HV := Lib.hid (refValid_any k A A' nw c n c' wd F U HA.out HT.out)
  rw [← hq] at HV
  have HQ := Lib.hid hq
  clear hU BU hb0 hA hT hL hf hq
  go_enter Try.func16, Try.ntmps16
  go_upto_region 1 with fail
  rw [← HU.out]
  go_wp2_with fail
  refine HV.out.mono ?_
  rintro e W1 ⟨rfl, hb1⟩
  have HB1 := Lib.hid hb1
  have HBB := Lib.hid (below_next HB.out (Nat.le_refl _) hb1)
  clear hb1
  cases q with
  | false =>
    have HNO : Hid (¬ ValidP k nw wd n F) := Lib.hid fun h => by have h1 := HQ.out; rw [validB_yes h] at h1; exact absurd h1 (by decide)
    go_wp2_with fail
    go_ret2
    exact ⟨_, _, rfl, HBB.out, .inr ⟨fun h => HNO.out h.1, rfl, rfl⟩⟩
  | true =>
    have hvp : ValidP k nw wd n F := Classical.byContradiction fun h => by have h1 := HQ.out; rw [validB_no h] at h1; exact absurd h1 (by decide)
    have HVP := Lib.hid hvp
    have HL1 := Lib.hid (HL.out.next HB1.out)
    go_wp2_with fail
    refine (valid18_any AS cS L W1 HL1.out).mono ?_
    rintro e W2 ⟨q2, rfl, hq2, hb2⟩
    have HQ2 := Lib.hid hq2
    have HB2 := Lib.hid (below_next HB1.out (Nat.le_refl _) hb2)
    clear hq2 hb2
    cases q2 with
    | false =>
      go_wp2_with fail
      go_ret2
      exact ⟨_, _, rfl, below_next HB.out (Nat.le_refl _) HB2.out, .inr ⟨fun h => absurd (HQ2.out.2 h.2) (by decide), rfl, rfl⟩⟩
    | true =>
      have HVS := Lib.hid (HQ2.out.1 (by first | rfl | trivial))
      obtain ⟨K, hk, hK3, hK8, hn1, hn64, hnw⟩ := valid_shape hvp
      have HN := Lib.hid (note_any K nw c n c' cS A A' AS F L slot x W2 (HT.out.next HB2.out) (HL.out.next HB2.out) hK8 hn64 hnw x0 x1 HF.out)
      rw [← hk] at HN
      have HKK := Lib.hid (show k.toNat = K by omega)
      have p0 := (HB2.out.cell (p := ⟨w.heap.size, 0, none⟩) pz).trans p0
      have p1 := (HB2.out.cell (p := ⟨w.heap.size, 1, none⟩) pz).trans p1
      have p2 := (HB2.out.cell (p := ⟨w.heap.size, 2, none⟩) pz).trans p2
      clear hvp hk hK3 hK8 hn1 hn64 hnw
      go_wp2_with fail
      refine HN.out.mono ?_
      rintro e W3 ⟨A9, c9, rfl, h9, hb9⟩
      have H9 := Lib.hid h9
      have HB9 := Lib.hid (below_next HB2.out (Nat.le_refl _) hb9)
      clear h9 hb9
      go_wp2_with fail
      go_ret2
      exact ⟨_, _, rfl, below_next HB.out (Nat.le_refl _) HB9.out, .inl ⟨HVP.out, HVS.out, rfl, A9, c9, by rw [HKK.out]; rfl, by rw [HKK.out]; exact H9.out⟩⟩
end Go.Proofs.Ytjkbjbikofindaa
