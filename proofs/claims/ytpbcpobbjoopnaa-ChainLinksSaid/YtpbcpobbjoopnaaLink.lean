/-
  Contract of package frame: linksMakeChains.
-/
import Derived.Test.YtpbcpobbjoopnaaVal
namespace Go.Proofs.Ytpbcpobbjoopnaa
open Go.RowKit
set_option linter.unusedVariables false

theorem Row.lit {w : World} {cs : Array Value} {t : TypeId} {v : Value} {N : Nat} (h : cs = Array.replicate N v) : Row (w.alloc (.cells cs t)) w.heap.size t N (fun _ => v) := by
  subst h
  refine ⟨_, heap_alloc_new w _, by simp, fun j hj => ?_⟩
  simp [hj]

/-- What holds while the frames that follow others are marked. -/
def MarkAt (F : Nat → Fr) (n : Nat) (w : World) (g : Nat) (i : Value) (wr : World) : Prop :=
  ∃ t : Nat, t ≤ n ∧ i = .int .i64 t ∧ SingleTo F t ∧ Row wr g 92 64 (fun j => .bool (fol F t j)) ∧ Below w.heap.size w wr

/-- What holds while the chains are counted. -/
def CountAt (F : Nat → Fr) (n : Nat) (r i : Value) : Prop := ∃ t : Nat, t ≤ n ∧ i = .int .i64 t ∧ r = .int .i64 ((cov F n t).length : Nat)
/-- What holds along one chain. -/
def AlongAt (F : Nat → Fr) (n t : Nat) (r f : Value) : Prop :=
  ∃ i : Nat, i ≤ n ∧ f = .int .i64 (iter F i t) ∧ r = .int .i64 ((cov F n t).length + i : Nat) ∧ ∀ j, j < i → iter F j t ≠ -1

set_option maxHeartbeats 2000000 in
theorem links_any (A : Option Addr) (n c : Nat) (F : Nat → Fr) (w : World) (hT : Tab w w.heap.size A n c F) (hn : n ≤ 64) (hi : Inside F n) :
    Calls Try.prog 53 #[.slice A n c] w fun e w' => e = .returned (.bool (linkB F n)) ∧ Below w.heap.size w w' := by
  have HT := Lib.hid hT
  have HI := Lib.hid hi
  clear hT hi
  go_enter Try.func53, Try.ntmps53
  go_wp2
  go_loopw [5, 11] (fun _ i wr => MarkAt F n w w.heap.size i wr) (fun _ i _ => n - (intOf i).toNat)
  case atStart =>
    refine ⟨0, by omega, rfl, singleTo_zero, Row.congr (f := fun _ => .bool false) ?_ (fun j _ => rfl), (Below.refl _ _).alloc (Nat.le_refl _) _⟩
    exact Row.lit (by rfl)
  case round =>
    obtain ⟨t, ht, rfl, hs, hr, hb⟩ := hrel
    obtain ⟨g, hg⟩ : ∃ g, g = w.heap.size := ⟨_, rfl⟩
    have hgz : g < wr.heap.size := by rw [hg]; exact hr.lt
    rw [← hg] at hr ⊢
    have HG := Lib.hid hg
    have HB := Lib.hid hb
    have HR := Lib.hid hr
    have HS := Lib.hid hs
    clear hg hb hr hs
    by_cases hlt : t < n
    · obtain ⟨b, o, rfl, hbb⟩ := HT.out.base_ (by omega)
      obtain ⟨_, c0, c1, c2⟩ := ((HT.out.below HB.out)).cells t hlt
      have hbw : b < wr.heap.size := by have := HB.out.size; omega
      have hlt2 : 0 ≤ (t : Int) ∧ (t : Int) < n := by omega
      by_cases hx : (F t).nx = -1
      · rw [hx] at c2
        have HN : Hid (MarkAt F n w g (.int .i64 ((t : Int) + 1)) (wr.alloc (.cells #[.int .i64 (F t).ow, .int .i64 (F t).st, .int .i64 (-1)] 64))) :=
          ⟨t + 1, by omega, by go_num, singleTo_none HS.out hx, (HR.out.next ((Below.refl _ _).alloc (Nat.le_refl _) _)).congr (fun j _ => by rw [fol_none hx]), HB.out.alloc HB.out.size _⟩
        clear hx
        go_wp2
        go_roundw
        case rel => exact HN.out
        case measure => simp [intOf]; omega
      · rcases HI.out t hlt with h | ⟨y0, y1⟩
        · exact absurd h hx
        · obtain ⟨y, hy⟩ : ∃ y : Nat, (F t).nx = y := ⟨(F t).nx.toNat, by omega⟩
          rw [hy] at c2 hx y0 y1
          have y64 : y < 64 := by omega
          have yb : 0 ≤ (y : Int) ∧ (y : Int) < 64 := by omega
          have d0 := HR.out.cell y y64
          have d1 := HR.out.free y
          rcases hf : fol F t y with _ | _
          · rw [hf] at d0
            have HY := Lib.hid hy
            have HF := Lib.hid hf
            clear hy hf hx
            have hnew : Row ((wr.setCell ⟨g, y, none⟩ (.bool true)).alloc (.cells #[.int .i64 (F t).ow, .int .i64 (F t).st, .int .i64 y] 64)) g 92 64 (fun j => .bool (fol F (t + 1) j)) :=
              ((HR.out.set_ y y64 (.bool true)).next ((Below.refl _ _).alloc (Nat.le_refl _) _)).congr (fun j _ => by
                rw [fol_set HY.out]
                by_cases e : j = y
                · rw [if_pos e, if_pos e]
                · rw [if_neg e, if_neg e])
            have HN := Lib.hid hnew
            have HBN : Hid (Below w.heap.size w ((wr.setCell ⟨g, y, none⟩ (.bool true)).alloc (.cells #[.int .i64 (F t).ow, .int .i64 (F t).st, .int .i64 y] 64))) :=
              (HB.out.setCell (p := ⟨g, y, none⟩) (by rw [HG.out]; exact Nat.le_refl _) _).alloc (by simpa using HB.out.size) _
            have HSN : Hid (SingleTo F (t + 1)) := singleTo_new HS.out (by rw [HY.out]; exact HF.out)
            clear hnew
            go_wp2
            refine ⟨⟨t + 1, by omega, by go_num, HSN.out, HN.out, HBN.out⟩, by simp [intOf]; omega⟩
          · rw [hf] at d0
            have HV : Hid (false = linkB F n) := linkB_no (fun h => single_not hlt (by rw [hy]; exact hf) (by rw [hy]; exact hx) h.1)
            clear hy hf hx
            go_wp2
            go_ret
            exact ⟨ret_bool HV.out, HB.out.alloc HB.out.size _⟩
    · obtain rfl : n = t := by omega
      have hlt2 : ¬ (n : Int) < n := by omega
      have HS2 : Hid (Single F n) := HS.out
      have HTR : Hid (Tab wr w.heap.size A n c F) := HT.out.below HB.out
      clear HS ht hlt
      go_wp2
      go_loop [6, 7, 8, 28] (fun r _ _ i => CountAt F n r i) (fun _ _ _ i => n - (intOf i).toNat)
      case atStart => exact ⟨0, by omega, rfl, by rw [cov_zero]; rfl⟩
      case round =>
        obtain ⟨t, ht, rfl, rfl⟩ := hrel
        have hcl := cov_le HI.out HS2.out ht
        by_cases hlt : t < n
        · have hx : 0 ≤ (t : Int) ∧ (t : Int) < 64 := by omega
          have hlt3 : (t : Int) < n := by omega
          have d0 := HR.out.cell t (by omega)
          rcases hf : fol F n t with _ | _
          · rw [hf] at d0
            have HF := Lib.hid hf
            have hcl2 := cov_le HI.out HS2.out (show t + 1 ≤ n by omega)
            clear hf
            obtain ⟨L, hL⟩ : ∃ L, L = (cov F n t).length := ⟨_, rfl⟩
            rw [← hL] at hcl ⊢
            have HL := Lib.hid hL
            clear hL
            go_wp2
            go_loop [6, 8] (fun r f => ∃ i : Nat, i ≤ n ∧ f = .int .i64 (iter F i t) ∧ r = .int .i64 ((L + i : Nat) : Int) ∧ ∀ j, j < i → iter F j t ≠ -1) (fun r _ => L + n - (intOf r).toNat)
            case atStart => exact ⟨0, by omega, rfl, by simp, fun j hj => by omega⟩
            case round =>
              obtain ⟨i, hin, rfl, rfl, hne⟩ := hrel
              have HNE := Lib.hid hne
              clear hne
              have ir := iter_in HI.out hlt i
              by_cases he : iter F i t = -1
              · have HE := Lib.hid he
                have HA : Hid ((cov F n (t + 1)).length = L + i) := by rw [HL.out]; exact cov_add HF.out hin he HNE.out
                rw [he]
                clear he ir
                go_wp2
                refine ⟨⟨t + 1, by omega, by go_num, by rw [HA.out]⟩, by simp [intOf]; omega⟩
              · have hlt4 : i < n := by
                  rcases Nat.lt_or_ge i n with h | h
                  · exact h
                  · exact absurd (iter_stay F (start_ends HI.out HS2.out hlt HF.out) h) he
                obtain ⟨y, hy⟩ : ∃ y : Nat, iter F i t = y := ⟨(iter F i t).toNat, by omega⟩
                have y1 : y < n := by omega
                have hnx : iter F (i + 1) t = (F y).nx := by rw [iter_succ, if_neg he, hy, Int.toNat_natCast]
                have HNX := Lib.hid hnx
                clear hnx
                have HNE2 : Hid (∀ j, j < i + 1 → iter F j t ≠ -1) := fun j hj => by
                  rcases (show j < i ∨ j = i by omega) with h | rfl
                  · exact HNE.out j h
                  · exact he
                obtain ⟨b, o, rfl, hbb⟩ := HTR.out.base_ (by omega)
                obtain ⟨_, _, _, c2⟩ := HTR.out.cells y y1
                rw [hy]
                have hb1 : ((y : Int) == -1) = false := by simp
                have yb : 0 ≤ (y : Int) ∧ (y : Int) < n := by omega
                clear hy he ir
                go_wp2
                refine ⟨⟨i + 1, by omega, by rw [HNX.out], by go_num, HNE2.out⟩, by simp [intOf]; omega⟩
          · rw [hf] at d0
            have HA : Hid ((cov F n (t + 1)).length = (cov F n t).length) := cov_skip hf
            clear hf
            go_wp2
            refine ⟨⟨t + 1, by omega, by go_num, by rw [HA.out]⟩, by simp [intOf]; omega⟩
        · obtain rfl : n = t := by omega
          have hlt3 : ¬ (n : Int) < n := by omega
          rcases hv : linkB F n with _ | _
          · have hne : (cov F n n).length ≠ n := fun h => linkB_not hv ⟨HS2.out, (ends_iff HI.out HS2.out).1 h⟩
            obtain ⟨L, hL⟩ : ∃ L, L = (cov F n n).length := ⟨_, rfl⟩
            rw [← hL] at hne ⊢
            have hb : ((L : Int) == (n : Int)) = false := by simp; omega
            clear hne hL
            go_wp2
            go_ret
            exact ⟨rfl, HB.out⟩
          · have he := (ends_iff HI.out HS2.out).2 (linkB_of hv).2
            rw [he]
            clear he
            go_wp2
            go_ret
            exact ⟨rfl, HB.out⟩
end Go.Proofs.Ytpbcpobbjoopnaa
