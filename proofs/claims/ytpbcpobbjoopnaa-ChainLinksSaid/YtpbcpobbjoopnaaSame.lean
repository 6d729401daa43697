/-
  The references' Same: words that read alike, spaces that read alike.
-/
import Derived.Test.YtpbcpobbjoopnaaEq
import Derived.Test.YtpbcpobbjoopnaaFresh
import Derived.BigQuiet
namespace Go.Proofs.Ytpbcpobbjoopnaa
open Go.RowKit
set_option linter.unusedVariables false

theorem after_drawn {w w' : World} (m : Nat) (h : Below w.heap.size w w') : Below w.heap.size w (w'.drewN m) := h.trans ⟨rfl, rfl, rfl, Nat.le_refl _, fun _ _ => rfl⟩

theorem same_yes (A A' : Option Addr) (n c c' : Nat) (f : Nat → Int) (w : World) (h : Arr w w.heap.size A n c f) (h' : Arr w w.heap.size A' n c' f) (hn : n ≤ 1048576) :
    Calls Try.prog 39 #[.slice A n c, .slice A' n c'] w fun e w' => e = .returned (.bool true) ∧ Below w.heap.size w w' := by
  have H := Lib.hid h
  have H' := Lib.hid h'
  clear h h'
  go_enter Try.func39, Try.ntmps39
  go_wp2
  go_loopw [13] (fun i wr => ∃ t : Nat, t ≤ n ∧ i = .int .i64 t ∧ ∃ m, wr = w.drewN m) (fun i _ => n - (intOf i).toNat)
  case atStart => exact ⟨0, Nat.zero_le _, rfl, 0, rfl⟩
  case round =>
    obtain ⟨t, ht, rfl, m, rfl⟩ := hrel
    by_cases hlt : t < n
    · obtain ⟨b, o, rfl, hb, hc1⟩ := H.out.at_ t hlt
      obtain ⟨b', o', rfl, hb', hc2⟩ := H'.out.at_ t hlt
      have hx : 0 ≤ (t : Int) ∧ (t : Int) < n := by omega
      have hlt2 : (t : Int) < n := by omega
      go_wp2
      go_quiet (fail)
      go_wp2
      go_roundw
      case rel => exact ⟨t + 1, by omega, by go_num, _, rfl⟩
      case measure => simp [intOf]; omega
    · have hlt2 : ¬ (t : Int) < n := by omega
      go_wp2
      go_ret
      exact ⟨rfl, after_drawn _ (Below.refl _ _)⟩

set_option maxHeartbeats 1000000 in
theorem sameSp_yes (s : Int) (A A' B B' : Option Addr) (nw c d n c' d' : Nat) (wd : Nat → Int) (F : Nat → Fr) (w : World) (hA : Arr w w.heap.size A nw c wd) (hB : Arr w w.heap.size B nw d wd) (hT : Tab w w.heap.size A' n c' F) (hT' : Tab w w.heap.size B' n d' F) (hn : nw ≤ 1048576) (hn' : n ≤ 4096) :
    Calls Try.prog 19 #[.agg #[.int .i64 s, .slice A nw c, .slice A' n c'], .agg #[.int .i64 s, .slice B nw d, .slice B' n d']] w fun e w' => e = .returned (.bool true) ∧ Below w.heap.size w w' := by
  obtain ⟨U, hU⟩ : ∃ U, U = (w.alloc (.cells #[.int .i64 s, .slice A nw c, .slice A' n c'] 25)).alloc (.cells #[.int .i64 s, .slice B nw d, .slice B' n d'] 25) := ⟨_, rfl⟩
  have BX := Lib.hid (show Blk U w.heap.size 25 #[.int .i64 s, .slice A nw c, .slice A' n c'] by rw [hU]; exact (Blk.new _ _ _).alloc _)
  have BY := Lib.hid (show Blk U (w.heap.size + 1) 25 #[.int .i64 s, .slice B nw d, .slice B' n d'] by rw [hU]; exact Blk.newAt _ _ _ _ (by simp))
  have hbu : Below w.heap.size w U := by rw [hU]; exact ((Below.refl _ _).alloc (Nat.le_refl _) _).alloc (by simp) _
  have HBU := Lib.hid hbu
  have HU := Lib.hid hU
  have HA := Lib.hid (hA.next hbu)
  have HB := Lib.hid (hB.next hbu)
  have HT := Lib.hid (hT.next hbu)
  have HT' := Lib.hid (hT'.next hbu)
  clear hA hB hT hT' hU hbu
  go_enter Try.func19, Try.ntmps19
  go_wp2_with fail
  rw [← HU.out]
  refine (same_yes A B nw c d wd U HA.out HB.out hn).mono ?_
  rintro e W ⟨rfl, hb⟩
  have X := BX.out.next hb
  have Y := BY.out.next hb
  have p2 := X.cell 2
  have q2 := Y.cell 2
  have zx := X.lt
  have zy := Y.lt
  simp at p2 q2
  have H1 := Lib.hid (HT.out.next hb)
  have H2 := Lib.hid (HT'.out.next hb)
  have HBW := Lib.hid (below_next HBU.out (Nat.le_refl _) hb)
  clear X Y hb HT HT' HA HB BX BY HU HBU
  go_wp2_with fail
  go_loopw [31] (fun i wr => ∃ t : Nat, t ≤ n ∧ i = .int .i64 t ∧ ∃ m, wr = W.drewN m) (fun i _ => n - (intOf i).toNat)
  case atStart => exact ⟨0, Nat.zero_le _, rfl, 0, rfl⟩
  case round =>
    obtain ⟨t, ht, rfl, m, rfl⟩ := hrel
    by_cases hlt : t < n
    · obtain ⟨b, o, rfl, hb⟩ := H1.out.base_ (by omega)
      obtain ⟨b', o', rfl, hb'⟩ := H2.out.base_ (by omega)
      obtain ⟨_, c0, c1, c2⟩ := H1.out.cells t hlt
      obtain ⟨_, d0, d1, d2⟩ := H2.out.cells t hlt
      have hne : ∀ W, (binOp .neq 64 (.agg #[.int .i64 (F t).ow, .int .i64 (F t).st, .int .i64 (F t).nx]) (.agg #[.int .i64 (F t).ow, .int .i64 (F t).st, .int .i64 (F t).nx])).run Try.prog W = .ok (.bool false) W := fun W => by
        rw [run_neq_frame (F t).ow (F t).st (F t).nx (F t).ow (F t).st (F t).nx W]
        simp [frB]
      obtain ⟨x0, hx0⟩ : ∃ x, x = (F t).ow := ⟨_, rfl⟩
      obtain ⟨x1, hx1⟩ : ∃ x, x = (F t).st := ⟨_, rfl⟩
      obtain ⟨x2, hx2⟩ : ∃ x, x = (F t).nx := ⟨_, rfl⟩
      rw [← hx0, ← hx1, ← hx2] at hne
      rw [← hx0] at c0 d0
      rw [← hx1] at c1 d1
      rw [← hx2] at c2 d2
      have hx : 0 ≤ (t : Int) ∧ (t : Int) < n := by omega
      have hlt2 : (t : Int) < n := by omega
      clear hx0 hx1 hx2
      go_wp2
      go_quiet (fail)
      go_wp2
      go_roundw
      case rel => exact ⟨t + 1, by omega, by go_num, _, rfl⟩
      case measure => simp [intOf]; omega
    · have hlt2 : ¬ (t : Int) < n := by omega
      go_wp2
      go_ret
      exact ⟨rfl, after_drawn _ HBW.out⟩
end Go.Proofs.Ytpbcpobbjoopnaa
