/-
  Layer 19: a slot noted (the reference's Note).
-/
import Derived.Test.YtjkbjbikofindaaVPair
import Derived.Test.YtjkbjbikofindaaRSlo
namespace Go.Proofs.Ytjkbjbikofindaa
open Go.RowKit
set_option maxRecDepth 100000
set_option linter.unusedVariables false

/-- The sets with a slot noted, if it has to be. -/
def noteS (K nw : Nat) (F : Nat → Fr) (slot x : Int) (L : List SetR) : List SetR := if prB K nw F slot x = true then putS (prF K nw slot x) (prG K nw slot x) slot L else L
theorem putS_sl {f t s : Int} {B : Nat} : ∀ L : List SetR, (∀ x ∈ L, x.sl.length ≤ B) → ∀ x ∈ putS f t s L, x.sl.length ≤ B + 1
  | [], _, x, hx => by simp [putS] at hx; subst hx; simp
  | y :: L, h, x, hx => by
    have ih := putS_sl (f := f) (t := t) (s := s) (B := B) L fun z hz => h z (List.mem_cons_of_mem _ hz)
    have hy := h y (by simp)
    unfold putS at hx
    split at hx
    · rcases List.mem_cons.1 hx with rfl | hx
      · omega
      · exact ih x hx
    · split at hx
      · rcases List.mem_cons.1 hx with rfl | hx
        · simp
        · have := h x hx
          omega
      · rcases List.mem_cons.1 hx with rfl | hx
        · have := (withL_len s y.sl).2
          simp only
          omega
        · have := h x (List.mem_cons_of_mem _ hx)
          omega
/-- Sets of at most B pairs with at most B slots each. -/
def Few18 (B : Nat) (L : List SetR) : Prop := L.length ≤ B ∧ ∀ x ∈ L, x.sl.length ≤ B
theorem Few18.note {B K nw : Nat} {F : Nat → Fr} {slot x : Int} {L : List SetR} (h : Few18 B L) : Few18 (B + 1) (noteS K nw F slot x L) := by
  unfold noteS
  split
  · exact ⟨Nat.le_trans (putS_len _ _ _ L) (Nat.succ_le_succ h.1), putS_sl L h.2⟩
  · exact ⟨Nat.le_succ_of_le h.1, fun x hx => Nat.le_succ_of_le (h.2 x hx)⟩
/-- Sets that may be read. -/
def GivesSt (L : List SetR) (w : World) (e : Ending) (w' : World) : Prop := ∃ A c, e = .returned (.slice A L.length c) ∧ TArr w' (Lt w'.heap.size) A c L ∧ Below w.heap.size w w'

set_option maxHeartbeats 4000000 in
theorem note_any (K nw c n c' cS : Nat) (A A' AS : Option Addr) (F : Nat → Fr) (L : List SetR) (slot x : Int) (w : World) (hT : Tab w w.heap.size A' n c' F) (hL : TArr w (Lt w.heap.size) AS cS L) (hK : K ≤ 8) (hn : n ≤ 64) (hw : nw = n * 2 ^ K) (x0 : 0 ≤ x) (x1 : x < 18446744073709551616) (hf : Few18 1048000 L) :
    Calls Try.prog 33 #[.agg #[.int .i64 K, .slice A nw c, .slice A' n c'], .slice AS L.length cS, .int .i64 slot, .int .u64 x] w (GivesSt (noteS K nw F slot x L) w) := by
  obtain ⟨X, hX⟩ : ∃ X, X = w.alloc (.cells #[.int .i64 K, .slice A nw c, .slice A' n c'] 25) := ⟨_, rfl⟩
  have HXS := Lib.hid (show Blk X w.heap.size 25 #[.int .i64 K, .slice A nw c, .slice A' n c'] by rw [hX]; exact Blk.new _ _ _)
  have hb0 : Below w.heap.size w X := by rw [hX]; exact (Below.refl _ _).alloc (Nat.le_refl _) _
  have HB := Lib.hid hb0
  have HL := Lib.hid (hL.next hb0)
  have HX := Lib.hid hX
  have HP := Lib.hid (pair_any K nw c n c' A A' F slot x X (hT.next hb0) hK hn hw x0 x1)
  have HF := Lib.hid hf
  have q0 : X.cell? ⟨w.heap.size, 0, none⟩ = some (.int .i64 K) := HXS.out.cell 0
  have q1 : X.cell? ⟨w.heap.size, 1, none⟩ = some (.slice A nw c) := HXS.out.cell 1
  have q2 : X.cell? ⟨w.heap.size, 2, none⟩ = some (.slice A' n c') := HXS.out.cell 2
  clear hX hb0 hT hL hf hw
  obtain ⟨f, hfv⟩ : ∃ y, y = prF K nw slot x := ⟨_, rfl⟩
  obtain ⟨g, hgv⟩ : ∃ y, y = prG K nw slot x := ⟨_, rfl⟩
  obtain ⟨b, hbv⟩ : ∃ y, y = prB K nw F slot x := ⟨_, rfl⟩
  have HN := Lib.hid (show noteS K nw F slot x L = if b = true then putS f g slot L else L by rw [hfv, hgv, hbv]; rfl)
  unfold PairOf at HP
  rw [← hfv, ← hgv, ← hbv] at HP
  clear hfv hgv hbv
  go_enter Try.func33, Try.ntmps33
  go_upto_region 1 with fail
  rw [← HX.out]
  go_wp2_with fail
  refine HP.out.mono ?_
  rintro e X1 ⟨rfl, hb1⟩
  have HB1 := Lib.hid hb1
  clear hb1 q0 q1 q2
  cases b with
  | false =>
    have HR := Lib.hid (HN.out.trans (if_neg (by simp)))
    go_wp2_with fail
    go_ret
    rw [HR.out]
    exact ⟨AS, cS, rfl, HL.out.next HB1.out, HB.out.trans (HB1.out.mono HB.out.size)⟩
  | true =>
    have HR := Lib.hid (HN.out.trans (if_pos rfl))
    have hp := putT_any AS cS L f g slot X1 (HL.out.next HB1.out) HF.out.1 HF.out.2
    go_wp2_with fail
    refine hp.mono ?_
    rintro e X2 ⟨v, rfl, ho, hb2⟩
    obtain ⟨A2, c2, rfl, hT2⟩ := ho.tarr
    have HT2 := Lib.hid hT2
    have HB2 := Lib.hid hb2
    clear hp ho hT2 hb2
    go_wp2_with fail
    go_ret
    rw [HR.out]
    exact ⟨A2, c2, rfl, HT2.out, (HB.out.trans (HB1.out.mono HB.out.size)).trans (HB2.out.mono (Nat.le_trans HB.out.size HB1.out.size))⟩

end Go.Proofs.Ytjkbjbikofindaa
