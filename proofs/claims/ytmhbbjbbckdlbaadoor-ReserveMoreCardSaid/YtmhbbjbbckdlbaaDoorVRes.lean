/-
  How many frames are kept free, and which growth is granted.
-/
import Derived.Test.YtmhbbjbbckdlbaaDoorCRcp
import Derived.Test.YtmhbbjbbckdlbaaDoorMPool
import Derived.Test.YtmhbbjbbckdlbaaDoorMLaid
import Derived.Test.YtmhbbjbbckdlbaaDoorQwrd
import Derived.Test.YtmhbbjbbckdlbaaDoorBap
import Derived.Deep.RegionHeld3
namespace Go.Proofs.YtmhbbjbbckdlbaaDoor
open Go.RowKit
set_option maxRecDepth 100000
set_option linter.unusedVariables false

/-- Frames that have to be free. -/
def needZ (cp : Bool) (us : Nat) (lg : Int) : Int := if cp then us else lg
/-- Whether an increment with cw frames may take X more. -/
def grB (cp : Bool) (n us : Nat) (lg cw : Int) (X : Nat) : Bool :=
  if X = 0 then true else if n < us + X then false else if cp then decide (2 * ((us : Int) + X) ≤ n) else decide ((if lg < cw + X then cw + X else lg) ≤ (n : Int) - (us + X))
/-- Frames that are used. -/
def usN (F : Nat → Fr) (n : Nat) : Nat := n - cntP (owB F (-1)) n
theorem usN_le (F : Nat → Fr) (n : Nat) : usN F n ≤ n := by unfold usN; omega
theorem lgQ_nonneg (K : Int) (Q : List (List IncR)) : 0 ≤ lgQ K Q := by
  unfold lgQ
  have h1 : ∀ (q : List IncR) (a : Int), 0 ≤ a → 0 ≤ lgL K a q := by
    intro q
    unfold lgL
    induction q with
    | nil => exact fun a h => h
    | cons i q ih => exact fun a h => ih _ (by show 0 ≤ (if a < Hd.ceilZ i.wo K then Hd.ceilZ i.wo K else a); split <;> omega)
  have h2 : ∀ (Q : List (List IncR)) (a : Int), 0 ≤ a → 0 ≤ Q.foldl (lgL K) a := by
    intro Q
    induction Q with
    | nil => exact fun a h => h
    | cons q Q ih => exact fun a h => ih _ (h1 q a h)
  exact h2 Q 0 (by omega)

/-- A frame count of an increment is small. -/
theorem ceilZ_in (wo K : Int) : 0 ≤ Hd.ceilZ wo K ∧ Hd.ceilZ wo K ≤ 1099512676352 := by
  unfold Hd.ceilZ
  by_cases h : 0 ≤ wo ∧ wo ≤ 1099511627776 ∧ 0 ≤ K ∧ K ≤ 20
  · rw [if_pos h]
    obtain ⟨k, hk⟩ : ∃ k : Nat, k = K.toNat := ⟨_, rfl⟩
    have hk2 : k ≤ 20 := by omega
    rw [← hk]
    obtain ⟨p, hp⟩ : ∃ p : Nat, p = 2 ^ k := ⟨_, rfl⟩
    have hp1 : 1 ≤ p := by rw [hp]; exact Nat.one_le_two_pow
    have hp2 : p ≤ 1048576 := by rw [hp]; exact Nat.pow_le_pow_right (n := 2) (by omega) hk2
    have he : (2 : Int) ^ k = (p : Int) := by rw [hp]; exact (Int.natCast_pow 2 k).symm
    rw [he]
    have hq : 0 ≤ wo + (p : Int) - 1 := by omega
    have h1 := Int.ediv_nonneg hq (show (0 : Int) ≤ p by omega)
    have h2 := Int.ediv_le_self (p : Int) hq
    exact ⟨h1, by omega⟩
  · rw [if_neg h]
    exact ⟨by omega, by omega⟩
theorem lgQ_in (K : Int) (Q : List (List IncR)) : lgQ K Q ≤ 1099512676352 := by
  unfold lgQ
  have h1 : ∀ (q : List IncR) (a : Int), a ≤ 1099512676352 → lgL K a q ≤ 1099512676352 := by
    intro q
    unfold lgL
    induction q with
    | nil => exact fun a h => h
    | cons i q ih => exact fun a h => ih _ (by show (if a < Hd.ceilZ i.wo K then Hd.ceilZ i.wo K else a) ≤ _; have := (ceilZ_in i.wo K).2; split <;> omega)
  have h2 : ∀ (Q : List (List IncR)) (a : Int), a ≤ 1099512676352 → Q.foldl (lgL K) a ≤ 1099512676352 := by
    intro Q
    induction Q with
    | nil => exact fun a h => h
    | cons q Q ih => exact fun a h => ih _ (h1 q a h)
  exact h2 Q 0 (by omega)
/-- How many frames more there is room for. -/
def roomZ (cp : Bool) (fr us : Nat) (lg cw : Int) : Int :=
  if cp then ((fr : Int) - us).tdiv 2 else if ((fr : Int) - cw).tdiv 2 < (fr : Int) - lg then ((fr : Int) - cw).tdiv 2 else (fr : Int) - lg
theorem tdiv_two (x : Int) : x.tdiv 2 = if 0 ≤ x then x / 2 else -((-x) / 2) := by
  split
  · exact Int.tdiv_eq_ediv_of_nonneg (by assumption)
  · rw [← Int.tdiv_eq_ediv_of_nonneg (by omega : 0 ≤ -x), Int.neg_tdiv, Int.neg_neg]
theorem room_grants {cp : Bool} {n fr us : Nat} {lg cw : Int} {X : Nat} (hn : us + fr = n) (hl : 0 ≤ lg) (hc : 0 ≤ cw) :
    decide ((X : Int) ≤ if 0 < roomZ cp fr us lg cw then roomZ cp fr us lg cw else 0) = grB cp n us lg cw X := by
  unfold grB roomZ
  rw [tdiv_two, tdiv_two]
  by_cases hx : X = 0
  · rw [if_pos hx]
    subst hx
    exact decide_eq_true (by split <;> omega)
  · rw [if_neg hx]
    cases cp with
    | true =>
      simp only [if_true]
      by_cases ho : n < us + X
      · rw [if_pos ho]
        exact decide_eq_false (by (repeat' split) <;> omega)
      · rw [if_neg ho]
        exact decide_eq_decide.2 (by (repeat' split) <;> omega)
    | false =>
      simp only [Bool.false_eq_true, if_false]
      by_cases ho : n < us + X
      · rw [if_pos ho]
        exact decide_eq_false (by (repeat' split) <;> omega)
      · rw [if_neg ho]
        exact decide_eq_decide.2 (by (repeat' split) <;> omega)
section
variable (s : ByteArray) (A : Option Addr) (c : Nat) (R : List Rl) (f : Int) (K : Int) (B : Option Addr) (mk d : Nat) (A' : Option Addr) (n c' : Nat) (F : Nat → Fr) (QA : Option Addr) (QC : Nat) (Q : List (List IncR)) (w : World)

set_option maxHeartbeats 1000000 in
theorem refNeeded_any (hR : RArr w (Lt w.heap.size) A c R) (hW : WfR R) (hs : s.size ≤ 9223372036854775807) (hT : Tab w w.heap.size A' n c' F) (hn : n ≤ 64) (hQ : QArr w (Lt w.heap.size) QA QC Q) :
    Calls Tryd.prog 9 #[.agg #[.string s, .slice A R.length c, .int .i64 f], .agg #[.int .i64 K, .slice B mk d, .slice A' n c'], .slice QA Q.length QC] w fun e w' => e = .returned (.int .i64 (needZ (cplB s R f) (usN F n) (lgQ K Q))) ∧ Below w.heap.size w w' := by
  obtain ⟨U, hU⟩ : ∃ U, U = (w.alloc (.cells #[.string s, .slice A R.length c, .int .i64 f] 27)).alloc (.cells #[.int .i64 K, .slice B mk d, .slice A' n c'] 31) := ⟨_, rfl⟩
  have B1 : Blk U w.heap.size 27 #[.string s, .slice A R.length c, .int .i64 f] := by rw [hU]; exact (Blk.new _ _ _).alloc _
  have B2 : Blk U (w.heap.size + 1) 31 #[.int .i64 K, .slice B mk d, .slice A' n c'] := by rw [hU]; exact Blk.newAt _ _ _ _ (by simp)
  have hbu : Below w.heap.size w U := by rw [hU]; exact ((Below.refl _ _).alloc (Nat.le_refl _) _).alloc (by simp) _
  have HBU := Lib.hid hbu
  have HU := Lib.hid hU
  have HR := Lib.hid (hR.next hbu)
  have HT := Lib.hid (hT.next hbu)
  have HQ := Lib.hid (hQ.next hbu)
  have HB2 := Lib.hid B2
  have p0 := B1.cell 0
  have p1 := B1.cell 1
  have p2 := B1.cell 2
  simp at p0 p1 p2
  have l1 := B1.lt
  obtain ⟨cp, hcp⟩ : ∃ b, b = cplB s R f := ⟨_, rfl⟩
  have hcomp := refComplete_any s A c R f U HR.out hW hs
  rw [← hcp] at hcomp ⊢
  clear hU B1 B2 hbu hR hT hQ hcp
  go_enter Tryd.func9, Tryd.ntmps9
  go_upto_region 1 with fail
  rw [← HU.out]
  go_wp2_with fail
  refine hcomp.mono ?_
  rintro e V ⟨rfl, hb⟩
  have HBV := Lib.hid (below_next HBU.out (Nat.le_refl _) hb)
  have HTV := Lib.hid (HT.out.next hb)
  have HQV := Lib.hid (HQ.out.next hb)
  have BV := HB2.out.next hb
  have q0 := BV.cell 0
  have q1 := BV.cell 1
  have q2 := BV.cell 2
  simp at q0 q1 q2
  have l2 := BV.lt
  clear hb BV p0 p1 p2 l1
  cases cp with
  | true =>
    go_wp2_with fail
    refine (refUsed_any K (.slice B mk d) A' n c' F V HTV.out hn).mono ?_
    rintro e V2 ⟨rfl, hb⟩
    have HB3 := Lib.hid (below_next HBV.out (Nat.le_refl _) hb)
    clear hb q0 q1 q2 l2
    go_wp2_with fail
    go_ret
    exact ⟨rfl, HB3.out⟩
  | false =>
    go_wp2_with fail
    refine (refLargest_any K (.slice B mk d) (.slice A' n c') QA QC Q V HQV.out).mono ?_
    rintro e V2 ⟨rfl, hb⟩
    have HB3 := Lib.hid (below_next HBV.out (Nat.le_refl _) hb)
    clear hb q0 q1 q2 l2
    go_wp2_with fail
    go_ret
    exact ⟨rfl, HB3.out⟩

set_option maxHeartbeats 1000000 in
theorem devNeeded_any (hR : RArr w (Lt w.heap.size) A c R) (hW : WfR R) (hs : s.size ≤ 9223372036854775807) (hT : Tab w w.heap.size A' n c' F) (hn : n ≤ 64) (hQ : QArr w (Lt w.heap.size) QA QC Q) :
    Calls Tryd.prog 8 #[.agg #[.string s, .slice A R.length c, .int .i64 f], .agg #[.int .i64 K, .slice B mk d, .slice A' n c'], .slice QA Q.length QC] w fun e w' => e = .returned (.int .i64 (needZ (cplB s R f) (usN F n) (lgQ K Q))) ∧ Below w.heap.size w w' := by
  obtain ⟨U, hU⟩ : ∃ U, U = (w.alloc (.cells #[.string s, .slice A R.length c, .int .i64 f] 27)).alloc (.cells #[.int .i64 K, .slice B mk d, .slice A' n c'] 31) := ⟨_, rfl⟩
  have B1 : Blk U w.heap.size 27 #[.string s, .slice A R.length c, .int .i64 f] := by rw [hU]; exact (Blk.new _ _ _).alloc _
  have B2 : Blk U (w.heap.size + 1) 31 #[.int .i64 K, .slice B mk d, .slice A' n c'] := by rw [hU]; exact Blk.newAt _ _ _ _ (by simp)
  have hbu : Below w.heap.size w U := by rw [hU]; exact ((Below.refl _ _).alloc (Nat.le_refl _) _).alloc (by simp) _
  have HBU := Lib.hid hbu
  have HU := Lib.hid hU
  have HR := Lib.hid (hR.next hbu)
  have HT := Lib.hid (hT.next hbu)
  have HQ := Lib.hid (hQ.next hbu)
  have HB2 := Lib.hid B2
  have p0 := B1.cell 0
  have p1 := B1.cell 1
  have p2 := B1.cell 2
  simp at p0 p1 p2
  have l1 := B1.lt
  obtain ⟨cp, hcp⟩ : ∃ b, b = cplB s R f := ⟨_, rfl⟩
  have hcomp := complete_any s A c R f U HR.out hW
  rw [← hcp] at hcomp ⊢
  clear hU B1 B2 hbu hR hT hQ hcp
  go_enter Tryd.func8, Tryd.ntmps8
  go_upto_region 1 with fail
  rw [← HU.out]
  go_wp2_with fail
  refine hcomp.mono ?_
  rintro e V ⟨rfl, hb⟩
  have HBV := Lib.hid (below_next HBU.out (Nat.le_refl _) hb)
  have HTV := Lib.hid (HT.out.next hb)
  have HQV := Lib.hid (HQ.out.next hb)
  have BV := HB2.out.next hb
  have q0 := BV.cell 0
  have q1 := BV.cell 1
  have q2 := BV.cell 2
  simp at q0 q1 q2
  have l2 := BV.lt
  clear hb BV p0 p1 p2 l1
  cases cp with
  | true =>
    go_wp2_with fail
    refine (used_any K (.slice B mk d) A' n c' F V HTV.out hn).mono ?_
    rintro e V2 ⟨rfl, hb⟩
    have HB3 := Lib.hid (below_next HBV.out (Nat.le_refl _) hb)
    clear hb q0 q1 q2 l2
    go_wp2_with fail
    go_ret
    exact ⟨rfl, HB3.out⟩
  | false =>
    go_wp2_with fail
    refine (largest_any K (.slice B mk d) (.slice A' n c') QA QC Q V HQV.out).mono ?_
    rintro e V2 ⟨rfl, hb⟩
    have HB3 := Lib.hid (below_next HBV.out (Nat.le_refl _) hb)
    clear hb q0 q1 q2 l2
    go_wp2_with fail
    go_ret
    exact ⟨rfl, HB3.out⟩

set_option maxHeartbeats 2000000 in
theorem refHolds_any (hR : RArr w (Lt w.heap.size) A c R) (hW : WfR R) (hs : s.size ≤ 9223372036854775807) (hT : Tab w w.heap.size A' n c' F) (hn : n ≤ 64) (hQ : QArr w (Lt w.heap.size) QA QC Q) :
    Calls Tryd.prog 11 #[.agg #[.string s, .slice A R.length c, .int .i64 f], .agg #[.int .i64 K, .slice B mk d, .slice A' n c'], .slice QA Q.length QC] w fun e w' => e = .returned (.bool (decide (needZ (cplB s R f) (usN F n) (lgQ K Q) ≤ (cntP (owB F (-1)) n : Nat)))) ∧ Below w.heap.size w w' := by
  obtain ⟨U, hU⟩ : ∃ U, U = (w.alloc (.cells #[.string s, .slice A R.length c, .int .i64 f] 27)).alloc (.cells #[.int .i64 K, .slice B mk d, .slice A' n c'] 31) := ⟨_, rfl⟩
  have B1 : Blk U w.heap.size 27 #[.string s, .slice A R.length c, .int .i64 f] := by rw [hU]; exact (Blk.new _ _ _).alloc _
  have B2 : Blk U (w.heap.size + 1) 31 #[.int .i64 K, .slice B mk d, .slice A' n c'] := by rw [hU]; exact Blk.newAt _ _ _ _ (by simp)
  have hbu : Below w.heap.size w U := by rw [hU]; exact ((Below.refl _ _).alloc (Nat.le_refl _) _).alloc (by simp) _
  have HBU := Lib.hid hbu
  have HU := Lib.hid hU
  have hbd : Below w.heap.size w U.drew := hbu.drew
  have HRD := Lib.hid (hR.next hbd)
  have HTD := Lib.hid (hT.next hbd)
  have HQD := Lib.hid (hQ.next hbd)
  skip
  have HFL := Lib.hid (show (ownL F (-1) n).length = cntP (owB F (-1)) n from lstP_length (owB F (-1)) n)
  have p0 : U.drew.cell? ⟨w.heap.size, 0, none⟩ = some (.string s) := B1.cell 0
  have p1 : U.drew.cell? ⟨w.heap.size, 1, none⟩ = some (.slice A R.length c) := B1.cell 1
  have p2 : U.drew.cell? ⟨w.heap.size, 2, none⟩ = some (.int .i64 f) := B1.cell 2
  have q0 : U.drew.cell? ⟨w.heap.size + 1, 0, none⟩ = some (.int .i64 K) := B2.cell 0
  have q1 : U.drew.cell? ⟨w.heap.size + 1, 1, none⟩ = some (.slice B mk d) := B2.cell 1
  have q2 : U.drew.cell? ⟨w.heap.size + 1, 2, none⟩ = some (.slice A' n c') := B2.cell 2
  have l1 : w.heap.size < U.drew.heap.size := B1.lt
  have l2 : w.heap.size + 1 < U.drew.heap.size := B2.lt
  have hc : Below U.drew.heap.size U.drew U.drew := Below.refl _ _
  obtain ⟨nz, hnz⟩ : ∃ z, z = needZ (cplB s R f) (usN F n) (lgQ K Q) := ⟨_, rfl⟩
  rw [← hnz]
  have HNZ := Lib.hid hnz
  obtain ⟨fr, hfr⟩ : ∃ z, z = cntP (owB F (-1)) n := ⟨_, rfl⟩
  rw [← hfr] at HFL ⊢
  clear hU B1 B2 hbu hbd hR hT hQ hnz hfr
  go_enter Tryd.func11, Tryd.ntmps11
  go_upto_region 1 with fail
  rw [← HU.out]
  go_region_held3 (fun w' => w'.cell? ⟨w.heap.size, 0, none⟩ = some (.string s) ∧ w'.cell? ⟨w.heap.size, 1, none⟩ = some (.slice A R.length c) ∧ w'.cell? ⟨w.heap.size, 2, none⟩ = some (.int .i64 f) ∧ w'.cell? ⟨w.heap.size + 1, 0, none⟩ = some (.int .i64 K) ∧ w'.cell? ⟨w.heap.size + 1, 1, none⟩ = some (.slice B mk d) ∧ w'.cell? ⟨w.heap.size + 1, 2, none⟩ = some (.slice A' n c'))
    (first | (with_reducible exact ⟨p0, p1, p2, q0, q1, q2⟩) | (with_reducible exact ⟨(hc.cell (p := ⟨w.heap.size, 0, none⟩) l1).trans p0, (hc.cell (p := ⟨w.heap.size, 1, none⟩) l1).trans p1, (hc.cell (p := ⟨w.heap.size, 2, none⟩) l1).trans p2, (hc.cell (p := ⟨w.heap.size + 1, 0, none⟩) l2).trans q0, (hc.cell (p := ⟨w.heap.size + 1, 1, none⟩) l2).trans q1, (hc.cell (p := ⟨w.heap.size + 1, 2, none⟩) l2).trans q2⟩) | exact ⟨p0, p1, p2, q0, q1, q2⟩)
    (first
      | (go_at_call 23; refine (refFreeC_any K (.slice B mk d) A' n c' F _ (by first | (with_reducible exact HTD.out) | (with_reducible exact (HTD.out.next hc))) hn).mono ?_; rintro e wn ⟨NA, nc, rfl, _, hb⟩; rw [HFL.out]; replace hc : Below U.drew.heap.size U.drew wn := hc.trans (hb.mono hc.size))
      | (go_at_call 9; refine (refNeeded_any s A c R f K B mk d A' n c' F QA QC Q _ (HRD.out.next hc) hW hs (HTD.out.next hc) hn (HQD.out.next hc)).mono ?_; rintro e wn ⟨rfl, hb⟩; rw [← HNZ.out]; replace hc : Below U.drew.heap.size U.drew wn := hc.trans (hb.mono hc.size)))
  all_goals
    go_wp2
    go_ret
    exact ⟨rfl, below_next HBU.out.drew (Nat.le_refl _) hc⟩

set_option maxHeartbeats 2000000 in
theorem devHolds_any (hR : RArr w (Lt w.heap.size) A c R) (hW : WfR R) (hs : s.size ≤ 9223372036854775807) (hT : Tab w w.heap.size A' n c' F) (hn : n ≤ 64) (hQ : QArr w (Lt w.heap.size) QA QC Q) (hD : Db w) :
    Calls Tryd.prog 10 #[.agg #[.string s, .slice A R.length c, .int .i64 f], .agg #[.int .i64 K, .slice B mk d, .slice A' n c'], .slice QA Q.length QC] w fun e w' => e = .returned (.bool (decide (needZ (cplB s R f) (usN F n) (lgQ K Q) ≤ (cntP (owB F (-1)) n : Nat)))) ∧ Below w.heap.size w w' := by
  obtain ⟨U, hU⟩ : ∃ U, U = (w.alloc (.cells #[.string s, .slice A R.length c, .int .i64 f] 27)).alloc (.cells #[.int .i64 K, .slice B mk d, .slice A' n c'] 31) := ⟨_, rfl⟩
  have B1 : Blk U w.heap.size 27 #[.string s, .slice A R.length c, .int .i64 f] := by rw [hU]; exact (Blk.new _ _ _).alloc _
  have B2 : Blk U (w.heap.size + 1) 31 #[.int .i64 K, .slice B mk d, .slice A' n c'] := by rw [hU]; exact Blk.newAt _ _ _ _ (by simp)
  have hbu : Below w.heap.size w U := by rw [hU]; exact ((Below.refl _ _).alloc (Nat.le_refl _) _).alloc (by simp) _
  have HBU := Lib.hid hbu
  have HU := Lib.hid hU
  have hbd : Below w.heap.size w U.drew := hbu.drew
  have HRD := Lib.hid (hR.next hbd)
  have HTD := Lib.hid (hT.next hbd)
  have HQD := Lib.hid (hQ.next hbd)
  have HDB := Lib.hid (Db.next hD hbd)
  have HFL := Lib.hid (show (ownL F (-1) n).length = cntP (owB F (-1)) n from lstP_length (owB F (-1)) n)
  have p0 : U.drew.cell? ⟨w.heap.size, 0, none⟩ = some (.string s) := B1.cell 0
  have p1 : U.drew.cell? ⟨w.heap.size, 1, none⟩ = some (.slice A R.length c) := B1.cell 1
  have p2 : U.drew.cell? ⟨w.heap.size, 2, none⟩ = some (.int .i64 f) := B1.cell 2
  have q0 : U.drew.cell? ⟨w.heap.size + 1, 0, none⟩ = some (.int .i64 K) := B2.cell 0
  have q1 : U.drew.cell? ⟨w.heap.size + 1, 1, none⟩ = some (.slice B mk d) := B2.cell 1
  have q2 : U.drew.cell? ⟨w.heap.size + 1, 2, none⟩ = some (.slice A' n c') := B2.cell 2
  have l1 : w.heap.size < U.drew.heap.size := B1.lt
  have l2 : w.heap.size + 1 < U.drew.heap.size := B2.lt
  have hc : Below U.drew.heap.size U.drew U.drew := Below.refl _ _
  obtain ⟨nz, hnz⟩ : ∃ z, z = needZ (cplB s R f) (usN F n) (lgQ K Q) := ⟨_, rfl⟩
  rw [← hnz]
  have HNZ := Lib.hid hnz
  obtain ⟨fr, hfr⟩ : ∃ z, z = cntP (owB F (-1)) n := ⟨_, rfl⟩
  rw [← hfr] at HFL ⊢
  clear hU B1 B2 hbu hbd hR hT hQ hnz hfr
  go_enter Tryd.func10, Tryd.ntmps10
  go_upto_region 1 with fail
  rw [← HU.out]
  go_region_held3 (fun w' => w'.cell? ⟨w.heap.size, 0, none⟩ = some (.string s) ∧ w'.cell? ⟨w.heap.size, 1, none⟩ = some (.slice A R.length c) ∧ w'.cell? ⟨w.heap.size, 2, none⟩ = some (.int .i64 f) ∧ w'.cell? ⟨w.heap.size + 1, 0, none⟩ = some (.int .i64 K) ∧ w'.cell? ⟨w.heap.size + 1, 1, none⟩ = some (.slice B mk d) ∧ w'.cell? ⟨w.heap.size + 1, 2, none⟩ = some (.slice A' n c'))
    (first | (with_reducible exact ⟨p0, p1, p2, q0, q1, q2⟩) | (with_reducible exact ⟨(hc.cell (p := ⟨w.heap.size, 0, none⟩) l1).trans p0, (hc.cell (p := ⟨w.heap.size, 1, none⟩) l1).trans p1, (hc.cell (p := ⟨w.heap.size, 2, none⟩) l1).trans p2, (hc.cell (p := ⟨w.heap.size + 1, 0, none⟩) l2).trans q0, (hc.cell (p := ⟨w.heap.size + 1, 1, none⟩) l2).trans q1, (hc.cell (p := ⟨w.heap.size + 1, 2, none⟩) l2).trans q2⟩) | exact ⟨p0, p1, p2, q0, q1, q2⟩)
    (first
      | (go_at_call 33; refine (free_any K (.slice B mk d) A' n c' F _ (by first | (with_reducible exact HTD.out) | (with_reducible exact (HTD.out.next hc))) hn HDB.out).mono ?_; rintro e wn ⟨NA, nc, rfl, _, hb⟩; rw [HFL.out]; replace hc : Below U.drew.heap.size U.drew wn := hc.trans (hb.mono hc.size))
      | (go_at_call 8; refine (devNeeded_any s A c R f K B mk d A' n c' F QA QC Q _ (HRD.out.next hc) hW hs (HTD.out.next hc) hn (HQD.out.next hc)).mono ?_; rintro e wn ⟨rfl, hb⟩; rw [← HNZ.out]; replace hc : Below U.drew.heap.size U.drew wn := hc.trans (hb.mono hc.size)))
  all_goals
    go_wp2
    go_ret
    exact ⟨rfl, below_next HBU.out.drew (Nat.le_refl _) hc⟩

set_option maxHeartbeats 4000000 in
theorem refGrants_any (sq bt fi la wo D cw : Int) (X : Nat) (hR : RArr w (Lt w.heap.size) A c R) (hW : WfR R) (hs : s.size ≤ 9223372036854775807) (hT : Tab w w.heap.size A' n c' F) (hn : n ≤ 64) (hQ : QArr w (Lt w.heap.size) QA QC Q) (hX : extZ K wo D = (X : Int)) (hX2 : X ≤ 1000000) (hcw : Hd.ceilZ wo K = cw) (hcw0 : 0 ≤ cw) (hcw2 : cw ≤ 1000000) :
    Calls Tryd.prog 14 #[.agg #[.string s, .slice A R.length c, .int .i64 f], .agg #[.int .i64 K, .slice B mk d, .slice A' n c'], .slice QA Q.length QC, .agg #[.int .i64 sq, .int .i64 bt, .int .i64 fi, .int .i64 la, .int .i64 wo], .int .i64 D] w fun e w' => e = .returned (.bool (grB (cplB s R f) n (usN F n) (lgQ K Q) cw X)) ∧ Below w.heap.size w w' := by
  obtain ⟨U, hU⟩ : ∃ U, U = ((w.alloc (.cells #[.string s, .slice A R.length c, .int .i64 f] 27)).alloc (.cells #[.int .i64 K, .slice B mk d, .slice A' n c'] 31)).alloc (.cells #[.int .i64 sq, .int .i64 bt, .int .i64 fi, .int .i64 la, .int .i64 wo] 38) := ⟨_, rfl⟩
  have B1 : Blk U w.heap.size 27 #[.string s, .slice A R.length c, .int .i64 f] := by rw [hU]; exact ((Blk.new _ _ _).alloc _).alloc _
  have B2 : Blk U (w.heap.size + 1) 31 #[.int .i64 K, .slice B mk d, .slice A' n c'] := by rw [hU]; exact (Blk.newAt _ _ _ _ (by simp)).alloc _
  have B3 : Blk U (w.heap.size + 2) 38 #[.int .i64 sq, .int .i64 bt, .int .i64 fi, .int .i64 la, .int .i64 wo] := by rw [hU]; exact Blk.newAt _ _ _ _ (by simp)
  have hbu : Below w.heap.size w U := by rw [hU]; exact (((Below.refl _ _).alloc (Nat.le_refl _) _).alloc (by simp) _).alloc (by simp; omega) _
  have HBU := Lib.hid hbu
  have HU := Lib.hid hU
  have HR := Lib.hid (hR.next hbu)
  have HT := Lib.hid (hT.next hbu)
  have HQ := Lib.hid (hQ.next hbu)
  have HB1 := Lib.hid B1
  have HB2 := Lib.hid B2
  have HB3 := Lib.hid B3
  obtain ⟨cp, hcp⟩ : ∃ b, b = cplB s R f := ⟨_, rfl⟩
  have hcomp := fun W (h : Below U.heap.size U W) => refComplete_any s A c R f W (HR.out.next h) hW hs
  have hused := fun W (h : Below U.heap.size U W) => refUsed_any K (.slice B mk d) A' n c' F W (HT.out.next h) hn
  have hus : n - cntP (owB F (-1)) n = usN F n := rfl
  rw [hus] at hused
  have husn := usN_le F n
  generalize usN F n = us at *
  have hlg := lgQ_nonneg K Q
  have hlarg := fun W (h : Below U.heap.size U W) => refLargest_any K (.slice B mk d) (.slice A' n c') QA QC Q W (HQ.out.next h)
  generalize lgQ K Q = lg at *
  rw [← hcp] at hcomp ⊢
  have HCOMP := Lib.hid hcomp
  have HUSED := Lib.hid hused
  have HLARG := Lib.hid hlarg
  clear hU B1 B2 B3 hbu hR hT hQ hcp hus hcomp hused hlarg
  go_enter Tryd.func14, Tryd.ntmps14
  go_upto_region 1 with fail
  rw [← HU.out]
  go_cut [11, 12] (fun a b wx => a = .int .i64 X ∧ b = .int .i64 n ∧ Below U.heap.size U wx)
  case first =>
    have q0 : U.drew.cell? ⟨w.heap.size + 1, 0, none⟩ = some (.int .i64 K) := HB2.out.cell 0
    have q1 : U.drew.cell? ⟨w.heap.size + 1, 1, none⟩ = some (.slice B mk d) := HB2.out.cell 1
    have q2 : U.drew.cell? ⟨w.heap.size + 1, 2, none⟩ = some (.slice A' n c') := HB2.out.cell 2
    have r0 : U.drew.cell? ⟨w.heap.size + 2, 0, none⟩ = some (.int .i64 sq) := HB3.out.cell 0
    have r1 : U.drew.cell? ⟨w.heap.size + 2, 1, none⟩ = some (.int .i64 bt) := HB3.out.cell 1
    have r2 : U.drew.cell? ⟨w.heap.size + 2, 2, none⟩ = some (.int .i64 fi) := HB3.out.cell 2
    have r3 : U.drew.cell? ⟨w.heap.size + 2, 3, none⟩ = some (.int .i64 la) := HB3.out.cell 3
    have r4 : U.drew.cell? ⟨w.heap.size + 2, 4, none⟩ = some (.int .i64 wo) := HB3.out.cell 4

    have l2 : w.heap.size + 1 < U.drew.heap.size := HB2.out.lt
    have l3 : w.heap.size + 2 < U.drew.heap.size := HB3.out.lt
    have hc : Below U.drew.heap.size U.drew U.drew := Below.refl _ _
    go_region_held3 (fun w' => w'.cell? ⟨w.heap.size + 1, 0, none⟩ = some (.int .i64 K) ∧ w'.cell? ⟨w.heap.size + 1, 1, none⟩ = some (.slice B mk d) ∧ w'.cell? ⟨w.heap.size + 1, 2, none⟩ = some (.slice A' n c') ∧ w'.cell? ⟨w.heap.size + 2, 0, none⟩ = some (.int .i64 sq) ∧ w'.cell? ⟨w.heap.size + 2, 1, none⟩ = some (.int .i64 bt) ∧ w'.cell? ⟨w.heap.size + 2, 2, none⟩ = some (.int .i64 fi) ∧ w'.cell? ⟨w.heap.size + 2, 3, none⟩ = some (.int .i64 la) ∧ w'.cell? ⟨w.heap.size + 2, 4, none⟩ = some (.int .i64 wo))
      (first | (with_reducible exact ⟨q0, q1, q2, r0, r1, r2, r3, r4⟩) | (with_reducible exact ⟨(hc.cell (p := ⟨w.heap.size + 1, 0, none⟩) l2).trans q0, (hc.cell (p := ⟨w.heap.size + 1, 1, none⟩) l2).trans q1, (hc.cell (p := ⟨w.heap.size + 1, 2, none⟩) l2).trans q2, (hc.cell (p := ⟨w.heap.size + 2, 0, none⟩) l3).trans r0, (hc.cell (p := ⟨w.heap.size + 2, 1, none⟩) l3).trans r1, (hc.cell (p := ⟨w.heap.size + 2, 2, none⟩) l3).trans r2, (hc.cell (p := ⟨w.heap.size + 2, 3, none⟩) l3).trans r3, (hc.cell (p := ⟨w.heap.size + 2, 4, none⟩) l3).trans r4⟩) | exact ⟨q0, q1, q2, r0, r1, r2, r3, r4⟩)
      (first
        | (go_at_call 17; refine (refExtra9_any K wo D (.slice B mk d) (.slice A' n c') sq bt fi la _).mono ?_; rintro e wn ⟨rfl, hb⟩; rw [hX]; replace hc : Below U.drew.heap.size U.drew wn := hc.trans (Below.mono hb hc.size)))
    all_goals
      go_wp2
      go_meet
      exact ⟨rfl, rfl, Below.trans (Below.refl U.heap.size U).drew hc⟩
  case rest =>
    obtain ⟨rfl, rfl, hb⟩ := hcut
    have HBC := Lib.hid hb
    clear hb
    by_cases hx0 : X = 0
    · subst hx0
      go_wp2_with fail
      go_ret
      exact ⟨rfl, below_next HBU.out (Nat.le_refl _) HBC.out⟩
    have hx1 : ((X : Int) == 0) = false := by simpa using hx0
    have hx2 : ¬ X = 0 := hx0
    have hadd : IntKind.i64.wrap ((us : Int) + X) = (us : Int) + X := IntWalk.i64_in _ (by omega)
    have B1 := HB1.out.next HBC.out
    have B2 := HB2.out.next HBC.out
    have q0 : wc.cell? ⟨w.heap.size + 1, 0, none⟩ = some (.int .i64 K) := B2.cell 0
    have q1 : wc.cell? ⟨w.heap.size + 1, 1, none⟩ = some (.slice B mk d) := B2.cell 1
    have q2 : wc.cell? ⟨w.heap.size + 1, 2, none⟩ = some (.slice A' n c') := B2.cell 2

    have l2 : w.heap.size + 1 < wc.heap.size := B2.lt
    have HX2 := Lib.hid hx2
    clear hx0 hx2 hX B1 B2
    go_wp2_with fail
    refine (HUSED.out wc HBC.out).mono ?_
    rintro e V1 ⟨rfl, hb⟩
    have HV1 := Lib.hid (HBC.out.trans (Below.mono hb HBC.out.size))
    clear hb q0 q1 q2 l2
    by_cases hov : n < us + X
    · have hov2 : (n : Int) < (us : Int) + X := by omega
      have HOV := Lib.hid hov
      clear hov
      go_wp2_with fail
      go_ret
      exact ⟨by unfold grB; rw [if_neg HX2.out, if_pos HOV.out]; rfl, below_next HBU.out (Nat.le_refl _) HV1.out⟩
    have hov2 : ¬ (n : Int) < (us : Int) + X := by omega
    have HOV := Lib.hid hov
    have B1 := HB1.out.next HV1.out
    have p0 := B1.cell 0
    have p1 := B1.cell 1
    have p2 := B1.cell 2
    simp at p0 p1 p2
    have l1 := B1.lt
    clear B1 hov
    go_wp2_with fail
    refine (HCOMP.out V1 HV1.out).mono ?_
    rintro e V2 ⟨rfl, hb⟩
    have HV2 := Lib.hid (HV1.out.trans (Below.mono hb HV1.out.size))
    clear hb p0 p1 p2 l1
    cases cp with
    | true =>
      have hmul : IntKind.i64.wrap (2 * ((us : Int) + X)) = 2 * ((us : Int) + X) := IntWalk.i64_in _ (by omega)
      go_wp2_with fail
      go_ret
      exact ⟨by unfold grB; rw [if_neg HX2.out, if_neg HOV.out]; rfl, below_next HBU.out (Nat.le_refl _) HV2.out⟩
    | false =>
      have hsub : IntKind.i64.wrap ((n : Int) - ((us : Int) + X)) = (n : Int) - ((us : Int) + X) := IntWalk.i64_in _ (by omega)
      have hadd2 : IntKind.i64.wrap (cw + X) = cw + X := IntWalk.i64_in _ (by omega)
      have B2 := HB2.out.next HV2.out
      have B3 := HB3.out.next HV2.out
      have q0 : V2.drew.cell? ⟨w.heap.size + 1, 0, none⟩ = some (.int .i64 K) := B2.cell 0
      have q1 : V2.drew.cell? ⟨w.heap.size + 1, 1, none⟩ = some (.slice B mk d) := B2.cell 1
      have q2 : V2.drew.cell? ⟨w.heap.size + 1, 2, none⟩ = some (.slice A' n c') := B2.cell 2
      have r0 : V2.drew.cell? ⟨w.heap.size + 1 + 1, 0, none⟩ = some (.int .i64 sq) := B3.cell 0
      have r1 : V2.drew.cell? ⟨w.heap.size + 1 + 1, 1, none⟩ = some (.int .i64 bt) := B3.cell 1
      have r2 : V2.drew.cell? ⟨w.heap.size + 1 + 1, 2, none⟩ = some (.int .i64 fi) := B3.cell 2
      have r3 : V2.drew.cell? ⟨w.heap.size + 1 + 1, 3, none⟩ = some (.int .i64 la) := B3.cell 3
      have r4 : V2.drew.cell? ⟨w.heap.size + 1 + 1, 4, none⟩ = some (.int .i64 wo) := B3.cell 4

      have l2 : w.heap.size + 1 < V2.drew.heap.size := B2.lt
      have l3 : w.heap.size + 1 + 1 < V2.drew.heap.size := B3.lt
      have hc : Below V2.drew.heap.size V2.drew V2.drew := Below.refl _ _
      have HVD : Hid (Below U.heap.size U V2.drew) := Lib.hid HV2.out.drew
      have HCW := Lib.hid hcw
      obtain ⟨mx, hmx⟩ : ∃ m : Int, (if lg < cw + (X : Int) then cw + (X : Int) else lg) = m := ⟨_, rfl⟩
      have HMX := Lib.hid hmx
      clear B2 B3 hcw
      go_upto_region 9 with fail
      go_region_held3 (fun w' => w'.cell? ⟨w.heap.size + 1, 0, none⟩ = some (.int .i64 K) ∧ w'.cell? ⟨w.heap.size + 1, 1, none⟩ = some (.slice B mk d) ∧ w'.cell? ⟨w.heap.size + 1, 2, none⟩ = some (.slice A' n c') ∧ w'.cell? ⟨w.heap.size + 1 + 1, 0, none⟩ = some (.int .i64 sq) ∧ w'.cell? ⟨w.heap.size + 1 + 1, 1, none⟩ = some (.int .i64 bt) ∧ w'.cell? ⟨w.heap.size + 1 + 1, 2, none⟩ = some (.int .i64 fi) ∧ w'.cell? ⟨w.heap.size + 1 + 1, 3, none⟩ = some (.int .i64 la) ∧ w'.cell? ⟨w.heap.size + 1 + 1, 4, none⟩ = some (.int .i64 wo))
        (first | (with_reducible exact ⟨q0, q1, q2, r0, r1, r2, r3, r4⟩) | (with_reducible exact ⟨(hc.cell (p := ⟨w.heap.size + 1, 0, none⟩) l2).trans q0, (hc.cell (p := ⟨w.heap.size + 1, 1, none⟩) l2).trans q1, (hc.cell (p := ⟨w.heap.size + 1, 2, none⟩) l2).trans q2, (hc.cell (p := ⟨w.heap.size + 1 + 1, 0, none⟩) l3).trans r0, (hc.cell (p := ⟨w.heap.size + 1 + 1, 1, none⟩) l3).trans r1, (hc.cell (p := ⟨w.heap.size + 1 + 1, 2, none⟩) l3).trans r2, (hc.cell (p := ⟨w.heap.size + 1 + 1, 3, none⟩) l3).trans r3, (hc.cell (p := ⟨w.heap.size + 1 + 1, 4, none⟩) l3).trans r4⟩) | exact ⟨q0, q1, q2, r0, r1, r2, r3, r4⟩)
        (first
          | (go_at_call 32; refine (HLARG.out _ (HVD.out.trans (Below.mono hc HVD.out.size))).mono ?_; rintro e wn ⟨rfl, hb⟩; replace hc : Below V2.drew.heap.size V2.drew wn := hc.trans (Below.mono hb hc.size))
          | (go_at_call 36; refine (refFrames9_any K wo (.slice B mk d) (.slice A' n c') sq bt fi la _).mono ?_; rintro e wn ⟨rfl, hb⟩; rw [HCW.out]; replace hc : Below V2.drew.heap.size V2.drew wn := hc.trans (Below.mono hb hc.size)))
      all_goals
        go_wp2
        go_ret
        exact ⟨by unfold grB; rw [if_neg HX2.out, if_neg HOV.out, HMX.out]; rfl, below_next HBU.out (Nat.le_refl _) (HVD.out.trans (Below.mono hc HVD.out.size))⟩

set_option maxHeartbeats 4000000 in
theorem devRoom_any (sq bt fi la wo cw : Int) (hR : RArr w (Lt w.heap.size) A c R) (hW : WfR R) (hs : s.size ≤ 9223372036854775807) (hT : Tab w w.heap.size A' n c' F) (hn : n ≤ 64) (hQ : QArr w (Lt w.heap.size) QA QC Q) (hD : Db w) (hcw : Hd.ceilZ wo K = cw) (hcw0 : 0 ≤ cw) (hcw2 : cw ≤ 1000000) :
    Calls Tryd.prog 35 #[.agg #[.string s, .slice A R.length c, .int .i64 f], .agg #[.int .i64 K, .slice B mk d, .slice A' n c'], .slice QA Q.length QC, .agg #[.int .i64 sq, .int .i64 bt, .int .i64 fi, .int .i64 la, .int .i64 wo]] w fun e w' => e = .returned (.int .i64 (roomZ (cplB s R f) (cntP (owB F (-1)) n) (usN F n) (lgQ K Q) cw)) ∧ Below w.heap.size w w' := by
  obtain ⟨U, hU⟩ : ∃ U, U = ((w.alloc (.cells #[.string s, .slice A R.length c, .int .i64 f] 27)).alloc (.cells #[.int .i64 K, .slice B mk d, .slice A' n c'] 31)).alloc (.cells #[.int .i64 sq, .int .i64 bt, .int .i64 fi, .int .i64 la, .int .i64 wo] 38) := ⟨_, rfl⟩
  have B1 : Blk U w.heap.size 27 #[.string s, .slice A R.length c, .int .i64 f] := by rw [hU]; exact ((Blk.new _ _ _).alloc _).alloc _
  have B2 : Blk U (w.heap.size + 1) 31 #[.int .i64 K, .slice B mk d, .slice A' n c'] := by rw [hU]; exact (Blk.newAt _ _ _ _ (by simp)).alloc _
  have B3 : Blk U (w.heap.size + 2) 38 #[.int .i64 sq, .int .i64 bt, .int .i64 fi, .int .i64 la, .int .i64 wo] := by rw [hU]; exact Blk.newAt _ _ _ _ (by simp)
  have hbu : Below w.heap.size w U := by rw [hU]; exact (((Below.refl _ _).alloc (Nat.le_refl _) _).alloc (by simp) _).alloc (by simp; omega) _
  have HBU := Lib.hid hbu
  have HU := Lib.hid hU
  have HR := Lib.hid (hR.next hbu)
  have HT := Lib.hid (hT.next hbu)
  have HQ := Lib.hid (hQ.next hbu)
  have HD := Lib.hid (Db.next hD hbu)
  have HB1 := Lib.hid B1
  have HB2 := Lib.hid B2
  have HB3 := Lib.hid B3
  obtain ⟨cp, hcp⟩ : ∃ b, b = cplB s R f := ⟨_, rfl⟩
  have hcomp := fun W (h : Below U.heap.size U W) => complete_any s A c R f W (HR.out.next h) hW
  have hfree := fun W (h : Below U.heap.size U W) => free_any K (.slice B mk d) A' n c' F W (HT.out.next h) hn (Db.next HD.out h)
  have hused := fun W (h : Below U.heap.size U W) => used_any K (.slice B mk d) A' n c' F W (HT.out.next h) hn
  have hlarg := fun W (h : Below U.heap.size U W) => largest_any K (.slice B mk d) (.slice A' n c') QA QC Q W (HQ.out.next h)
  have hfl : (ownL F (-1) n).length = cntP (owB F (-1)) n := lstP_length (owB F (-1)) n
  have hus : n - cntP (owB F (-1)) n = usN F n := rfl
  rw [hus] at hused
  have husn := usN_le F n
  have hfrn := cntP_le (owB F (-1)) n
  generalize usN F n = us at *
  generalize cntP (owB F (-1)) n = fr at *
  have hlg := lgQ_nonneg K Q
  have hlg2 := lgQ_in K Q
  generalize lgQ K Q = lg at *
  rw [← hcp] at hcomp ⊢
  have HCOMP := Lib.hid hcomp
  have HFREE := Lib.hid hfree
  have HUSED := Lib.hid hused
  have HLARG := Lib.hid hlarg
  have HFL := Lib.hid hfl
  have q0 : U.cell? ⟨w.heap.size + 1, 0, none⟩ = some (.int .i64 K) := B2.cell 0
  have q1 : U.cell? ⟨w.heap.size + 1, 1, none⟩ = some (.slice B mk d) := B2.cell 1
  have q2 : U.cell? ⟨w.heap.size + 1, 2, none⟩ = some (.slice A' n c') := B2.cell 2
  have l2 : w.heap.size + 1 < U.heap.size := B2.lt
  clear hU B1 B2 B3 hbu hR hT hQ hD hcp hus hcomp hused hlarg hfree hfl
  go_enter Tryd.func35, Tryd.ntmps35
  go_upto_region 1 with fail
  rw [← HU.out]
  go_wp2_with fail
  refine (HFREE.out _ (Below.refl _ _)).mono ?_
  rintro e V1 ⟨NA, nc, rfl, _, hb⟩
  rw [HFL.out]
  have HV1 := Lib.hid hb
  have B1 := HB1.out.next HV1.out
  have p0 : V1.cell? ⟨w.heap.size, 0, none⟩ = some (.string s) := B1.cell 0
  have p1 : V1.cell? ⟨w.heap.size, 1, none⟩ = some (.slice A R.length c) := B1.cell 1
  have p2 : V1.cell? ⟨w.heap.size, 2, none⟩ = some (.int .i64 f) := B1.cell 2
  have l1 : w.heap.size < V1.heap.size := B1.lt
  clear hb B1 q0 q1 q2 l2
  go_wp2_with fail
  refine (HCOMP.out V1 HV1.out).mono ?_
  rintro e V2 ⟨rfl, hb⟩
  have HV2 := Lib.hid (HV1.out.trans (Below.mono hb HV1.out.size))
  clear hb p0 p1 p2 l1
  cases cp with
  | true =>
    obtain ⟨d1, hd1⟩ : ∃ z : Int, (fr : Int) - us = z := ⟨_, rfl⟩
    have hs1 : IntKind.i64.wrap ((fr : Int) - us) = d1 := by rw [hd1]; exact IntWalk.i64_in _ (by omega)
    have hs2 : IntKind.i64.wrap (d1.tdiv 2) = d1.tdiv 2 := IntWalk.i64_quo' _ _ (by omega)
    have HD1 := Lib.hid hd1
    have B2 := HB2.out.next HV2.out
    have q0 : V2.cell? ⟨w.heap.size + 1, 0, none⟩ = some (.int .i64 K) := B2.cell 0
    have q1 : V2.cell? ⟨w.heap.size + 1, 1, none⟩ = some (.slice B mk d) := B2.cell 1
    have q2 : V2.cell? ⟨w.heap.size + 1, 2, none⟩ = some (.slice A' n c') := B2.cell 2
    have l2 : w.heap.size + 1 < V2.heap.size := B2.lt
    clear B2 hd1
    go_wp2_with fail
    refine (HUSED.out V2 HV2.out).mono ?_
    rintro e V3 ⟨rfl, hb⟩
    have HV3 := Lib.hid (HV2.out.trans (Below.mono hb HV2.out.size))
    clear hb q0 q1 q2 l2
    go_wp2_with fail
    go_ret
    exact ⟨by unfold roomZ; rw [HD1.out]; rfl, below_next HBU.out (Nat.le_refl _) HV3.out⟩
  | false =>
    obtain ⟨e1, he1⟩ : ∃ z : Int, (fr : Int) - lg = z := ⟨_, rfl⟩
    obtain ⟨e2, he2⟩ : ∃ z : Int, (fr : Int) - cw = z := ⟨_, rfl⟩
    have hs1 : IntKind.i64.wrap ((fr : Int) - lg) = e1 := by rw [he1]; exact IntWalk.i64_in _ (by omega)
    have hs2 : IntKind.i64.wrap ((fr : Int) - cw) = e2 := by rw [he2]; exact IntWalk.i64_in _ (by omega)
    obtain ⟨e3, he3⟩ : ∃ z : Int, e2.tdiv 2 = z := ⟨_, rfl⟩
    have hs3 : IntKind.i64.wrap (e2.tdiv 2) = e3 := by rw [← he3]; exact IntWalk.i64_quo' _ _ (by omega)
    have hs4 : IntKind.i64.wrap e3 = e3 := IntWalk.i64_in _ (by rw [← he3, tdiv_two]; split <;> omega)
    obtain ⟨mn, hmn⟩ : ∃ z : Int, (if e3 < e1 then e3 else e1) = z := ⟨_, rfl⟩
    have HMN := Lib.hid (show roomZ false fr us lg cw = mn by rw [← hmn, ← he3, ← he2, ← he1]; rfl)
    have B2 := HB2.out.next HV2.out
    have B3 := HB3.out.next HV2.out
    have q0 : V2.drew.cell? ⟨w.heap.size + 1, 0, none⟩ = some (.int .i64 K) := B2.cell 0
    have q1 : V2.drew.cell? ⟨w.heap.size + 1, 1, none⟩ = some (.slice B mk d) := B2.cell 1
    have q2 : V2.drew.cell? ⟨w.heap.size + 1, 2, none⟩ = some (.slice A' n c') := B2.cell 2
    have r0 : V2.drew.cell? ⟨w.heap.size + 2, 0, none⟩ = some (.int .i64 sq) := B3.cell 0
    have r1 : V2.drew.cell? ⟨w.heap.size + 2, 1, none⟩ = some (.int .i64 bt) := B3.cell 1
    have r2 : V2.drew.cell? ⟨w.heap.size + 2, 2, none⟩ = some (.int .i64 fi) := B3.cell 2
    have r3 : V2.drew.cell? ⟨w.heap.size + 2, 3, none⟩ = some (.int .i64 la) := B3.cell 3
    have r4 : V2.drew.cell? ⟨w.heap.size + 2, 4, none⟩ = some (.int .i64 wo) := B3.cell 4
    have l2 : w.heap.size + 1 < V2.drew.heap.size := B2.lt
    have l3 : w.heap.size + 2 < V2.drew.heap.size := B3.lt
    have hc : Below V2.drew.heap.size V2.drew V2.drew := Below.refl _ _
    have HVD : Hid (Below U.heap.size U V2.drew) := Lib.hid HV2.out.drew
    have HCW := Lib.hid hcw
    clear B2 B3 hcw he1 he2
    go_upto_region 4 with fail
    go_region_held3 (fun w' => w'.cell? ⟨w.heap.size + 1, 0, none⟩ = some (.int .i64 K) ∧ w'.cell? ⟨w.heap.size + 1, 1, none⟩ = some (.slice B mk d) ∧ w'.cell? ⟨w.heap.size + 1, 2, none⟩ = some (.slice A' n c') ∧ w'.cell? ⟨w.heap.size + 2, 0, none⟩ = some (.int .i64 sq) ∧ w'.cell? ⟨w.heap.size + 2, 1, none⟩ = some (.int .i64 bt) ∧ w'.cell? ⟨w.heap.size + 2, 2, none⟩ = some (.int .i64 fi) ∧ w'.cell? ⟨w.heap.size + 2, 3, none⟩ = some (.int .i64 la) ∧ w'.cell? ⟨w.heap.size + 2, 4, none⟩ = some (.int .i64 wo))
      (first | (with_reducible exact ⟨q0, q1, q2, r0, r1, r2, r3, r4⟩) | (with_reducible exact ⟨(hc.cell (p := ⟨w.heap.size + 1, 0, none⟩) l2).trans q0, (hc.cell (p := ⟨w.heap.size + 1, 1, none⟩) l2).trans q1, (hc.cell (p := ⟨w.heap.size + 1, 2, none⟩) l2).trans q2, (hc.cell (p := ⟨w.heap.size + 2, 0, none⟩) l3).trans r0, (hc.cell (p := ⟨w.heap.size + 2, 1, none⟩) l3).trans r1, (hc.cell (p := ⟨w.heap.size + 2, 2, none⟩) l3).trans r2, (hc.cell (p := ⟨w.heap.size + 2, 3, none⟩) l3).trans r3, (hc.cell (p := ⟨w.heap.size + 2, 4, none⟩) l3).trans r4⟩) | exact ⟨q0, q1, q2, r0, r1, r2, r3, r4⟩)
      (first
        | (go_at_call 31; refine (HLARG.out _ (HVD.out.trans (Below.mono hc HVD.out.size))).mono ?_; rintro e wn ⟨rfl, hb⟩; replace hc : Below V2.drew.heap.size V2.drew wn := hc.trans (Below.mono hb hc.size))
        | (go_at_call 54; refine (frames9_any K wo (.slice B mk d) (.slice A' n c') sq bt fi la _).mono ?_; rintro e wn ⟨rfl, hb⟩; rw [HCW.out]; replace hc : Below V2.drew.heap.size V2.drew wn := hc.trans (Below.mono hb hc.size)))
    all_goals
      go_wp2
      go_ret
      exact ⟨by rw [HMN.out]; rfl, below_next HBU.out (Nat.le_refl _) (HVD.out.trans (Below.mono hc HVD.out.size))⟩

set_option maxHeartbeats 4000000 in
theorem devGrants_any (sq bt fi la wo D cw : Int) (X : Nat) (hR : RArr w (Lt w.heap.size) A c R) (hW : WfR R) (hs : s.size ≤ 9223372036854775807) (hT : Tab w w.heap.size A' n c' F) (hn : n ≤ 64) (hQ : QArr w (Lt w.heap.size) QA QC Q) (hD : Db w) (hX : extZ K wo D = (X : Int)) (hX2 : X ≤ 1000000) (hcw : Hd.ceilZ wo K = cw) (hcw0 : 0 ≤ cw) (hcw2 : cw ≤ 1000000) :
    Calls Tryd.prog 13 #[.agg #[.string s, .slice A R.length c, .int .i64 f], .agg #[.int .i64 K, .slice B mk d, .slice A' n c'], .slice QA Q.length QC, .agg #[.int .i64 sq, .int .i64 bt, .int .i64 fi, .int .i64 la, .int .i64 wo], .int .i64 D] w fun e w' => e = .returned (.bool (grB (cplB s R f) n (usN F n) (lgQ K Q) cw X)) ∧ Below w.heap.size w w' := by
  obtain ⟨U, hU⟩ : ∃ U, U = ((w.alloc (.cells #[.string s, .slice A R.length c, .int .i64 f] 27)).alloc (.cells #[.int .i64 K, .slice B mk d, .slice A' n c'] 31)).alloc (.cells #[.int .i64 sq, .int .i64 bt, .int .i64 fi, .int .i64 la, .int .i64 wo] 38) := ⟨_, rfl⟩
  have B1 : Blk U w.heap.size 27 #[.string s, .slice A R.length c, .int .i64 f] := by rw [hU]; exact ((Blk.new _ _ _).alloc _).alloc _
  have B2 : Blk U (w.heap.size + 1) 31 #[.int .i64 K, .slice B mk d, .slice A' n c'] := by rw [hU]; exact (Blk.newAt _ _ _ _ (by simp)).alloc _
  have B3 : Blk U (w.heap.size + 2) 38 #[.int .i64 sq, .int .i64 bt, .int .i64 fi, .int .i64 la, .int .i64 wo] := by rw [hU]; exact Blk.newAt _ _ _ _ (by simp)
  have hbu : Below w.heap.size w U := by rw [hU]; exact (((Below.refl _ _).alloc (Nat.le_refl _) _).alloc (by simp) _).alloc (by simp; omega) _
  have HBU := Lib.hid hbu
  have HU := Lib.hid hU
  have hbd : Below w.heap.size w U.drew := hbu.drew
  have HRD := Lib.hid (hR.next hbd)
  have HTD := Lib.hid (hT.next hbd)
  have HQD := Lib.hid (hQ.next hbd)
  have HDD := Lib.hid (Db.next hD hbd)
  have HRG := Lib.hid (room_grants (cp := cplB s R f) (n := n) (fr := cntP (owB F (-1)) n) (us := usN F n) (cw := cw) (X := X) (by unfold usN; have := cntP_le (owB F (-1)) n; omega) (lgQ_nonneg K Q) hcw0)
  obtain ⟨rm, hrm⟩ : ∃ z, roomZ (cplB s R f) (cntP (owB F (-1)) n) (usN F n) (lgQ K Q) cw = z := ⟨_, rfl⟩
  rw [hrm] at HRG
  have HRM := Lib.hid hrm
  obtain ⟨mx, hmx⟩ : ∃ z : Int, (if 0 < rm then rm else 0) = z := ⟨_, rfl⟩
  rw [hmx] at HRG
  rw [← HRG.out]
  have p0 : U.drew.cell? ⟨w.heap.size, 0, none⟩ = some (.string s) := B1.cell 0
  have p1 : U.drew.cell? ⟨w.heap.size, 1, none⟩ = some (.slice A R.length c) := B1.cell 1
  have p2 : U.drew.cell? ⟨w.heap.size, 2, none⟩ = some (.int .i64 f) := B1.cell 2
  have q0 : U.drew.cell? ⟨w.heap.size + 1, 0, none⟩ = some (.int .i64 K) := B2.cell 0
  have q1 : U.drew.cell? ⟨w.heap.size + 1, 1, none⟩ = some (.slice B mk d) := B2.cell 1
  have q2 : U.drew.cell? ⟨w.heap.size + 1, 2, none⟩ = some (.slice A' n c') := B2.cell 2
  have r0 : U.drew.cell? ⟨w.heap.size + 2, 0, none⟩ = some (.int .i64 sq) := B3.cell 0
  have r1 : U.drew.cell? ⟨w.heap.size + 2, 1, none⟩ = some (.int .i64 bt) := B3.cell 1
  have r2 : U.drew.cell? ⟨w.heap.size + 2, 2, none⟩ = some (.int .i64 fi) := B3.cell 2
  have r3 : U.drew.cell? ⟨w.heap.size + 2, 3, none⟩ = some (.int .i64 la) := B3.cell 3
  have r4 : U.drew.cell? ⟨w.heap.size + 2, 4, none⟩ = some (.int .i64 wo) := B3.cell 4
  have l1 : w.heap.size < U.drew.heap.size := B1.lt
  have l2 : w.heap.size + 1 < U.drew.heap.size := B2.lt
  have l3 : w.heap.size + 2 < U.drew.heap.size := B3.lt
  have hc : Below U.drew.heap.size U.drew U.drew := Below.refl _ _
  have HXE := Lib.hid hX
  have HCW := Lib.hid hcw
  clear hU B1 B2 B3 hbu hbd hR hT hQ hD hrm hX hcw
  go_enter Tryd.func13, Tryd.ntmps13
  go_upto_region 1 with fail
  rw [← HU.out]
  go_region_held3 (fun w' => w'.cell? ⟨w.heap.size, 0, none⟩ = some (.string s) ∧ w'.cell? ⟨w.heap.size, 1, none⟩ = some (.slice A R.length c) ∧ w'.cell? ⟨w.heap.size, 2, none⟩ = some (.int .i64 f) ∧ w'.cell? ⟨w.heap.size + 1, 0, none⟩ = some (.int .i64 K) ∧ w'.cell? ⟨w.heap.size + 1, 1, none⟩ = some (.slice B mk d) ∧ w'.cell? ⟨w.heap.size + 1, 2, none⟩ = some (.slice A' n c') ∧ w'.cell? ⟨w.heap.size + 2, 0, none⟩ = some (.int .i64 sq) ∧ w'.cell? ⟨w.heap.size + 2, 1, none⟩ = some (.int .i64 bt) ∧ w'.cell? ⟨w.heap.size + 2, 2, none⟩ = some (.int .i64 fi) ∧ w'.cell? ⟨w.heap.size + 2, 3, none⟩ = some (.int .i64 la) ∧ w'.cell? ⟨w.heap.size + 2, 4, none⟩ = some (.int .i64 wo))
    (first | (with_reducible exact ⟨p0, p1, p2, q0, q1, q2, r0, r1, r2, r3, r4⟩) | (with_reducible exact ⟨(hc.cell (p := ⟨w.heap.size, 0, none⟩) l1).trans p0, (hc.cell (p := ⟨w.heap.size, 1, none⟩) l1).trans p1, (hc.cell (p := ⟨w.heap.size, 2, none⟩) l1).trans p2, (hc.cell (p := ⟨w.heap.size + 1, 0, none⟩) l2).trans q0, (hc.cell (p := ⟨w.heap.size + 1, 1, none⟩) l2).trans q1, (hc.cell (p := ⟨w.heap.size + 1, 2, none⟩) l2).trans q2, (hc.cell (p := ⟨w.heap.size + 2, 0, none⟩) l3).trans r0, (hc.cell (p := ⟨w.heap.size + 2, 1, none⟩) l3).trans r1, (hc.cell (p := ⟨w.heap.size + 2, 2, none⟩) l3).trans r2, (hc.cell (p := ⟨w.heap.size + 2, 3, none⟩) l3).trans r3, (hc.cell (p := ⟨w.heap.size + 2, 4, none⟩) l3).trans r4⟩) | exact ⟨p0, p1, p2, q0, q1, q2, r0, r1, r2, r3, r4⟩)
    (first
      | (go_at_call 34; refine (extra9_any K wo D (.slice B mk d) (.slice A' n c') sq bt fi la _).mono ?_; rintro e wn ⟨rfl, hb⟩; rw [HXE.out]; replace hc : Below U.drew.heap.size U.drew wn := hc.trans (Below.mono hb hc.size))
      | (go_at_call 35; refine (devRoom_any s A c R f K B mk d A' n c' F QA QC Q _ sq bt fi la wo cw (HRD.out.next hc) hW hs (HTD.out.next hc) hn (HQD.out.next hc) (Db.next HDD.out hc) HCW.out hcw0 hcw2).mono ?_; rintro e wn ⟨rfl, hb⟩; rw [HRM.out]; replace hc : Below U.drew.heap.size U.drew wn := hc.trans (Below.mono hb hc.size)))
  all_goals
    go_wp2
    go_ret
    exact ⟨rfl, below_next HBU.out.drew (Nat.le_refl _) hc⟩
end
end Go.Proofs.YtmhbbjbbckdlbaaDoor
