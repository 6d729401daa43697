/-
  Few and Left; where an object of a growing increment lies, and how many words it wastes. (Made by mkbws-s9.py.)
-/
import Derived.Test.YthcfcciemjkilaaDoorDrp
import Derived.Test.YthcfcciemjkilaaDoorMChain
import Derived.Test.YthcfcciemjkilaaDoorMSpoilt
import Derived.BigQuiet
namespace Go.Proofs.YthcfcciemjkilaaDoor
open Go.RowKit
set_option maxRecDepth 100000
set_option linter.unusedVariables false

/-- Some bool. -/
def SomeB9 (e : Ending) : Prop := ∃ b, e = .returned (.bool b)
theorem few9_any (A : Option Addr) (n c : Nat) (w : World) : Calls Tryd.prog 4 #[.slice A n c] w fun e w' => SomeB9 e ∧ w = w' := by
  by_cases h : (n : Int) ≤ 400
  · go_enter Tryd.func4, Tryd.ntmps4
    go_wp2
    go_ret
    exact ⟨⟨_, rfl⟩, rfl⟩
  · go_enter Tryd.func4, Tryd.ntmps4
    go_wp2
    go_ret
    exact ⟨⟨_, rfl⟩, rfl⟩
theorem left9_any (dk : Nat) (w : World) (hd : DeckP w dk) : Calls Tryd.prog 8 #[.pointer (some ⟨dk, 0, none⟩)] w fun e w' => SomeB9 e ∧ Below w.heap.size w w' := by
  obtain ⟨A, m, c, p, hb, hp0, hmc, hcm, hl⟩ := hd
  have q0 := hb.cell 0
  have q1 := hb.cell 1
  simp at q0 q1
  by_cases hp : (p : Int) < (m : Int)
  · go_enter Tryd.func8, Tryd.ntmps8
    go_wp2_with fail
    go_quiet (fail)
    go_wp2_with fail
    go_ret
    exact ⟨⟨_, rfl⟩, below_drewN (Below.refl _ w) nq⟩
  · go_enter Tryd.func8, Tryd.ntmps8
    go_wp2_with fail
    go_quiet (fail)
    go_wp2_with fail
    go_ret
    exact ⟨⟨_, rfl⟩, below_drewN (Below.refl _ w) nq⟩

/-- The place of an increment's word. -/
theorem idx_val {k nw n : Nat} {wd : Nat → Int} {G : Nat → Fr} {p m W : Nat} {la sq st : Int} (hv : ValidP k nw wd n G) (hc : ChainP G n p la m sq st) (hst : stB st sq = true) (hW : W < m * 2 ^ k) :
    idxE k nw wd n G p (addrP G k p W) = 0 ∧ idxV k nw wd n G p (addrP G k p W) = W ∧ 0 ≤ addrP G k p W ∧ addrP G k p W < nw := by
  have hm : 0 < m := by
    rcases Nat.eq_zero_or_pos m with h | h
    · rw [h] at hW; omega
    · exact h
  have hlen : LenP G p m := ⟨hc.end_ hm, fun i hi he => by obtain ⟨q, hq1, _⟩ := hc.at_ hv.fv hst hi; omega⟩
  have hso := (stB_yes hst).1
  have hpp : p < n ∧ (G p).ow = sq := by
    rcases hc with ⟨h7, _⟩ | ⟨_, p', l, h7, h8, _, _, _, _, h9, _⟩
    · omega
    · obtain rfl : p = p' := by omega
      exact ⟨h8, h9⟩
  obtain ⟨X, Y, h0, h1, _, h2, h3, h4, _⟩ := chain_order (Q := 0) hv hpp.1 (by rw [hpp.2]; omega) hlen hW
  rw [stp_val hv hc hst hW] at h2
  rw [h2]
  exact ⟨h3, h4, h0, h1⟩
/-- All frames are free or one owner's. -/
def OneP (G : Nat → Fr) (n : Nat) (sq : Int) : Prop := ∀ f, f < n → (G f).ow = -1 ∨ (G f).ow = sq
theorem one_used {G : Nat → Fr} {sq : Int} (h0 : sq ≠ -1) : ∀ t, (∀ f, f < t → (G f).ow = -1 ∨ (G f).ow = sq) → t - cntP (owB G (-1)) t = cntO G sq t
  | 0, _ => rfl
  | t + 1, h => by
    have ih := one_used h0 t (fun f hf => h f (by omega))
    have hle := cntP_le (owB G (-1)) t
    simp only [cntP, cntO]
    rcases h t (by omega) with e | e
    · rw [owB_yes e, if_neg (c := (G t).ow = sq) (by rw [e]; exact fun h => h0 h.symm), if_pos rfl]
      omega
    · rw [owB_no (by rw [e]; exact h0), if_pos (c := (G t).ow = sq) e, if_neg (by decide)]
      omega
theorem allE_four {k nw n : Nat} {wd : Nat → Int} {F : Nat → Fr} {sq bt fi la wo d x : Int} (h : allE k nw wd n F sq bt fi la wo d = x) (hx : x ≠ 0) (hi : incB k nw wd n F sq bt fi la wo = true) (h1 : 1 ≤ d) (h2 : d ≤ 48) (h3 : wo = 0 → cntO F sq n = 0) : x = 4 ∧ freeN F n < moreK k wo.toNat d.toNat := by
  unfold allE at h
  rw [Int.toNat_natCast] at h
  rw [if_neg (by rw [hi]; intro e; rcases e with e | e | e; cases e; omega; omega), if_neg (fun e => by have := h3 e.1; omega)] at h
  split at h
  · rename_i hf
    exact ⟨h.symm, hf⟩
  · exact absurd h.symm hx
end Go.Proofs.YthcfcciemjkilaaDoor
