/-
  Contracts of the references of layer 4: Free with its contents, Used, Lift where no frame is free, Take; of layer 18: SameInts.
-/
import Derived.Test.YtpbcpobbjoopnaaGive
import Derived.Test.YtpbcpobbjoopnaaSame
import Derived.Test.YtpbcpobbjoopnaaRVal
namespace Go.Proofs.Ytpbcpobbjoopnaa
open Go.RowKit
set_option maxRecDepth 100000
set_option linter.unusedVariables false

theorem freeN_cnt (F : Nat → Fr) : ∀ n, freeN F n = cntP (owB F (-1)) n
  | 0 => rfl
  | n + 1 => by
    simp only [freeN, cntP, freeN_cnt F n]
    by_cases h : (F n).ow = -1
    · rw [if_pos h, owB_yes h]; rfl
    · rw [if_neg h, owB_no h]; rfl

def FreeRowC (F : Nat → Fr) (w : World) (i v : Value) (n : Nat) (wr : World) : Prop :=
  ∃ t : Nat, t ≤ n ∧ i = .int .i64 t ∧ wr.ownsRow w.heap.size 3 1 v (cntP (owB F (-1)) t) (numL (lstP (owB F (-1)) t)) ∧ Below w.heap.size w wr

set_option maxHeartbeats 1000000 in
theorem refFreeC_any (s : Int) (V1 : Value) (A' : Option Addr) (n c' : Nat) (F : Nat → Fr) (w : World) (hT : Tab w w.heap.size A' n c' F) (hn : n ≤ 64) :
    Calls Try.prog 71 #[.agg #[.int .i64 s, V1, .slice A' n c']] w (GivesNums (ownL F (-1) n) w) := by
  obtain ⟨i0, hi0, hz0, hz1, hz2⟩ := info_parts int_info
  have HT := Lib.hid hT
  have HB0 : Hid (Below w.heap.size w (w.alloc (.cells #[.int .i64 s, V1, .slice A' n c'] 25))) := (Below.refl _ _).alloc (Nat.le_refl _) _
  clear hT
  go_enter Try.func71, Try.ntmps71
  go_wp2
  go_loopw [3, 4, 5, 9] (fun v _ _ i wr => FreeRowC F w i v n wr) (fun _ _ _ i _ => n - (intOf i).toNat)
  case atStart => exact ⟨0, by omega, rfl, World.ownsRow_nil _ _ _ _, HB0.out⟩
  case round =>
    obtain ⟨t, ht, rfl, hown, hb⟩ := hrel
    have HB := Lib.hid hb
    have HO := Lib.hid hown
    have hfl := cntP_le (owB F (-1)) t
    clear hb hown
    by_cases hlt : t < n
    · have hlt2 : 0 ≤ (t : Int) ∧ (t : Int) < n := by omega
      have HTR : Hid (Tab wr w.heap.size A' n c' F) := HT.out.below HB.out
      obtain ⟨b, o, rfl, hbb⟩ := HTR.out.base_ (by omega)
      obtain ⟨_, c0, c1, c2⟩ := HTR.out.cells t hlt
      have bz : b < wr.heap.size := by have := HB.out.size; omega
      obtain ⟨x, hx⟩ : ∃ x, x = (F t).ow := ⟨_, rfl⟩
      rw [← hx] at c0
      by_cases hx0 : x = -1
      · have hf : cntP (owB F (-1)) (t + 1) = cntP (owB F (-1)) t + 1 := by simp only [cntP]; rw [owB_yes (by rw [← hx]; exact hx0)]; rfl
        have hl : numL (lstP (owB F (-1)) (t + 1)) = numL (lstP (owB F (-1)) t) ++ [.int .i64 t] := by simp only [lstP]; rw [owB_yes (by rw [← hx]; exact hx0)]; simp [numL]
        subst hx0
        have HF := Lib.hid hf
        have HL := Lib.hid hl
        clear hx hf hl
        have hob := row_block HO.out
        go_wp2_with (at_builtin; refine wpList_append_own _ rfl _ _ 26 rfl w.heap.size 3 i0 (.int .i64 0) 1 8 Try.underlying26 hi0 hz0 hz1 hz2 rfl (by decide) _ (cntP (owB F (-1)) t) (numL (lstP (owB F (-1)) t)) rfl ((HO.out.alloc _).alloc _) ⟨wr.heap.size + 1, 0, none⟩ 1 1 [.int .i64 t] rfl rfl ?c1 (by simp [Value.oneCell']) (by simp only [maxLen]; omega) (by omega) ?c5 ?_)
        case c1 => exact one_news (by go_simp)
        case c5 => have := HB.out.size; simp; omega
        intro v' w1 hown' hgrow _
        have HN : Hid (w1.ownsRow w.heap.size 3 1 v' (cntP (owB F (-1)) (t + 1)) (numL (lstP (owB F (-1)) (t + 1)))) := by rw [HF.out, HL.out]; exact hown'
        have HBN : Hid (Below w.heap.size w w1) := ((HB.out.alloc HB.out.size _).alloc (by simp; have := HB.out.size; omega) _).grown hgrow (by simp; have := HB.out.size; omega) hob
        clear hown' hgrow hob
        go_wp2
        refine ⟨⟨t + 1, by omega, by go_num, HN.out, HBN.out⟩, by simp [intOf]; omega⟩
      · have hf : cntP (owB F (-1)) (t + 1) = cntP (owB F (-1)) t := by simp only [cntP]; rw [owB_no (by rw [← hx]; exact hx0)]; rfl
        have hl : lstP (owB F (-1)) (t + 1) = lstP (owB F (-1)) t := by simp only [lstP]; rw [owB_no (by rw [← hx]; exact hx0)]; simp
        have hb1 : (x == -1) = false := by simpa using hx0
        have HN : Hid ((wr.alloc (.cells #[.int .i64 x, .int .i64 (F t).st, .int .i64 (F t).nx] 64)).ownsRow w.heap.size 3 1 u3 (cntP (owB F (-1)) (t + 1)) (numL (lstP (owB F (-1)) (t + 1)))) := by rw [hf, hl]; exact HO.out.alloc _
        have HBN : Hid (Below w.heap.size w (wr.alloc (.cells #[.int .i64 x, .int .i64 (F t).st, .int .i64 (F t).nx] 64))) := HB.out.alloc HB.out.size _
        clear hx hf hl hx0
        go_wp2
        refine ⟨⟨t + 1, by omega, by go_num, HN.out, HBN.out⟩, by simp [intOf]; omega⟩
    · obtain rfl : n = t := by omega
      have hlt2 : ¬ (n : Int) < n := by omega
      obtain ⟨A, c, rfl, hnum, hl⟩ := nums_of_row HO.out
      have HN := Lib.hid hnum
      have HL := Lib.hid hl
      clear hnum hl
      go_wp2
      go_ret
      refine ⟨A, c, ?_, ?_, HB.out⟩
      · unfold ownL; rw [← HL.out]; rfl
      · unfold ownL; rw [← HL.out]; exact HN.out

theorem sameInts_yes (A B : Option Addr) (n c d : Nat) (f : Nat → Int) (w : World) (hA : Nums w w.heap.size A n c f) (hB : Nums w w.heap.size B n d f) (hn : n ≤ 1048576) :
    Calls Try.prog 20 #[.slice A n c, .slice B n d] w fun e w' => e = .returned (.bool true) ∧ Below w.heap.size w w' := by
  have H := Lib.hid hA
  have H' := Lib.hid hB
  clear hA hB
  go_enter Try.func20, Try.ntmps20
  go_wp2
  go_loopw [5, 13] (fun _ i wr => ∃ t : Nat, t ≤ n ∧ i = .int .i64 t ∧ ∃ m, wr = w.drewN m) (fun _ i _ => n - (intOf i).toNat)
  case atStart => exact ⟨0, Nat.zero_le _, rfl, 0, rfl⟩
  case round =>
    obtain ⟨t, ht, rfl, m, rfl⟩ := hrel
    by_cases hlt : t < n
    · obtain ⟨b, o, rfl, hb, hc1⟩ := H.out.at_ t hlt
      obtain ⟨b', o', rfl, hb', hc2⟩ := H'.out.at_ t hlt
      have hx : 0 ≤ (t : Int) ∧ (t : Int) < n := by omega
      have hlt2 : (t : Int) < n := by omega
      go_wp2
      go_quiet (fail)
      go_wp2
      exact ⟨⟨t + 1, by omega, by go_num, _, rfl⟩, by simp [intOf]; omega⟩
    · have hlt2 : ¬ (t : Int) < n := by omega
      go_wp2
      go_ret
      exact ⟨rfl, after_drawn _ (Below.refl _ _)⟩

set_option maxHeartbeats 1000000 in
theorem liftNone_any (s : Int) (V1 : Value) (A' : Option Addr) (n c' : Nat) (F : Nat → Fr) (ow bt : Int) (w : World) (hT : Tab w w.heap.size A' n c' F) (hn : n ≤ 64) (hf : cntP (owB F (-1)) n = 0) :
    Calls Try.prog 30 #[.agg #[.int .i64 s, V1, .slice A' n c'], .int .i64 ow, .int .i64 bt] w fun e w' => e = .returned (.int .i64 (-1)) ∧ Below w.heap.size w w' := by
  have HT := Lib.hid hT
  have HF := Lib.hid hf
  have HB0 : Hid (Below w.heap.size w (w.alloc (.cells #[.int .i64 s, V1, .slice A' n c'] 25))) := (Below.refl _ _).alloc (Nat.le_refl _) _
  clear hT hf
  go_enter Try.func30, Try.ntmps30
  go_wp2
  go_loopw [7, 8, 12] (fun _ _ i wr => ∃ t : Nat, t ≤ n ∧ i = .int .i64 t ∧ Below w.heap.size w wr) (fun _ _ i _ => n - (intOf i).toNat)
  case atStart => exact ⟨0, by omega, rfl, HB0.out⟩
  case round =>
    obtain ⟨t, ht, rfl, hb⟩ := hrel
    have HB := Lib.hid hb
    clear hb
    by_cases hlt : t < n
    · have hlt2 : 0 ≤ (t : Int) ∧ (t : Int) < n := by omega
      have HTR : Hid (Tab wr w.heap.size A' n c' F) := HT.out.below HB.out
      obtain ⟨b, o, rfl, hbb⟩ := HTR.out.base_ (by omega)
      obtain ⟨_, c0, c1, c2⟩ := HTR.out.cells t hlt
      have bz : b < wr.heap.size := by have := HB.out.size; omega
      obtain ⟨x, hx⟩ : ∃ x, x = (F t).ow := ⟨_, rfl⟩
      rw [← hx] at c0
      have hx0 : x ≠ -1 := fun e => by
        have h1 : cntP (owB F (-1)) (t + 1) ≤ cntP (owB F (-1)) n := cntP_mono _ (by omega)
        have h2 : cntP (owB F (-1)) (t + 1) = cntP (owB F (-1)) t + 1 := by simp only [cntP]; rw [owB_yes (by rw [← hx]; exact e)]; rfl
        have h3 := HF.out
        omega
      have hb1 : (x == -1) = false := by simpa using hx0
      have HBN : Hid (Below w.heap.size w (wr.alloc (.cells #[.int .i64 x, .int .i64 (F t).st, .int .i64 (F t).nx] 64))) := HB.out.alloc HB.out.size _
      clear hx hx0
      go_wp2
      exact ⟨⟨t + 1, by omega, by go_num, HBN.out⟩, by simp [intOf]; omega⟩
    · obtain rfl : n = t := by omega
      have hlt2 : ¬ (n : Int) < n := by omega
      go_wp2
      go_ret
      exact ⟨rfl, HB.out⟩
end Go.Proofs.Ytpbcpobbjoopnaa
