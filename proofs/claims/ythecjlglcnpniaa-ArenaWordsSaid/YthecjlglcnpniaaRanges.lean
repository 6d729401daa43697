/-
  Contracts of the reference of layer 2: Write, Fill, Copy; Make; Same.
-/
import Derived.Test.YthecjlglcnpniaaRefs
namespace Go.Proofs.Ythecjlglcnpniaa
open Go.RowKit
set_option linter.unusedVariables false

theorem refFill_any (A : Option Addr) (n c : Nat) (f : Nat → Int) (a k v : Int) (w : World) (h : Arr w w.heap.size A n c f) (hn : n ≤ 1048576) (a0 : -9223372036854775808 ≤ a) (a1 : a ≤ 9223372036854775807) :
    Calls Try.prog 19 #[.slice A n c, .int .i64 a, .int .i64 k, .int .u64 v] w (GivesArr (fillN n a k) (putF f a.toNat k.toNat v) (outE n a k) w) := by
  have H := Lib.hid h
  have hle := h.1
  have hm := h.2.1
  clear h
  by_cases h0 : k < 0
  · have e := outE_neg (n := n) (a := a) h0
    rw [fillN_bad (by rw [e]; decide), e]
    clear e
    go_enter Try.func19, Try.ntmps19
    go_wp2
    go_ret2
    exact ⟨none, 0, rfl, Arr.nil _ _ _, Below.refl _ _⟩
  · by_cases h1 : a < 0 ∨ n - a < k
    · have e := outE_out (n := n) (a := a) (k := k) (by omega) h1
      rw [fillN_bad (by rw [e]; decide), e]
      have H1 := Lib.hid h1
      clear e h1
      go_enter Try.func19, Try.ntmps19
      go_wp2_with fail
      refine (outside_yes A n c a k _ (by omega) H1.out hle hm a0 a1).mono ?_
      rintro e w' ⟨rfl, rfl⟩
      go_wp2
      go_ret2
      exact ⟨none, 0, rfl, Arr.nil _ _ _, Below.refl _ _⟩
    · have h2 : 0 ≤ k := by omega
      have h3 : 0 ≤ a := by omega
      have h4 : k ≤ n - a := by omega
      have e := outE_ok h2 h3 h4
      rw [fillN_ok e, e]
      clear e h1
      go_enter Try.func19, Try.ntmps19
      go_wp2_with fail
      refine (outside_no A n c a k _ h2 h3 h4 hle hm).mono ?_
      rintro e w' ⟨rfl, rfl⟩
      go_wp2_with fail
      refine (refClone_any A n c f _ H.out hn).mono ?_
      rintro e w1 ⟨A1, c1, rfl, ho, hb⟩
      have HO := Lib.hid ho
      have HB := Lib.hid hb
      have hle1 := ho.le
      have hm1 := ho.2.1
      clear ho hb
      go_wp2_with fail
      go_loopw [11] (fun i wr => ∃ t : Nat, t ≤ k.toNat ∧ i = .int .i64 t ∧ Own wr w.heap.size A1 n c1 (putF f a.toNat t v) ∧ Below w.heap.size w wr) (fun i _ => k.toNat - (intOf i).toNat)
      case atStart => exact ⟨0, Nat.zero_le _, rfl, by rw [putF_zero]; exact HO.out, HB.out⟩
      case round =>
        obtain ⟨t, ht, rfl, hown, hbel⟩ := hrel
        by_cases hlt : t < k.toNat
        · obtain ⟨g, rfl, hg1, hg2, hcell, hfree, hnew⟩ := hown.spot (a.toNat + t) (by omega) v
          have hb2 : Below w.heap.size w (wr.setCell ⟨g, a.toNat + t, none⟩ (.int .u64 v)) := hbel.setCell hg1 _
          rw [putF_succ] at hnew
          have HN := Lib.hid hnew
          have HB2 := Lib.hid hb2
          clear hown hbel hnew hb2
          have hlt2 : (t : Int) < k := by omega
          have hx1 : 0 ≤ a + t ∧ a + t < n := by omega
          have hx2 : (a + (t : Int)).toNat = a.toNat + t := by omega
          go_wp2
          go_roundw
          case rel => exact ⟨t + 1, by omega, by go_num, HN.out, HB2.out⟩
          case measure => simp [intOf]; omega
        · have e : t = k.toNat := by omega
          have HN := Lib.hid hown
          have HB2 := Lib.hid hbel
          have HE := Lib.hid e
          clear hown hbel e
          have hlt2 : ¬ (t : Int) < k := by omega
          go_wp2
          go_ret2
          exact ⟨A1, c1, rfl, by rw [← HE.out]; exact HN.out.arr, HB2.out⟩

theorem refCopy_any (A : Option Addr) (n c : Nat) (f : Nat → Int) (a b k : Int) (w : World) (h : Arr w w.heap.size A n c f) (hn : n ≤ 1048576) (a0 : -9223372036854775808 ≤ a) (a1 : a ≤ 9223372036854775807) (b0 : -9223372036854775808 ≤ b) (b1 : b ≤ 9223372036854775807) :
    Calls Try.prog 17 #[.slice A n c, .int .i64 a, .int .i64 b, .int .i64 k] w (GivesArr (copyN n a b k) (copyF f a.toNat b.toNat k.toNat) (copyE n a b k) w) := by
  have H := Lib.hid h
  have hle := h.1
  have hm := h.2.1
  clear h
  by_cases h0 : k < 0
  · have e : copyE n a b k = 1 := by unfold copyE; rw [if_pos h0]
    rw [copyN_bad (by rw [e]; decide), e]
    clear e
    go_enter Try.func17, Try.ntmps17
    go_wp2
    go_ret2
    exact ⟨none, 0, rfl, Arr.nil _ _ _, Below.refl _ _⟩
  · by_cases h1 : a < 0 ∨ n - a < k
    · have e : copyE n a b k = 2 := by unfold copyE; rw [if_neg h0, if_pos (.inl h1)]
      rw [copyN_bad (by rw [e]; decide), e]
      have H1 := Lib.hid h1
      clear e h1
      go_enter Try.func17, Try.ntmps17
      go_wp2_with fail
      refine (outside_yes A n c a k _ (by omega) H1.out hle hm a0 a1).mono ?_
      rintro e w' ⟨rfl, rfl⟩
      go_wp2
      go_ret2
      exact ⟨none, 0, rfl, Arr.nil _ _ _, Below.refl _ _⟩
    · by_cases h2 : b < 0 ∨ n - b < k
      · have e : copyE n a b k = 2 := by unfold copyE; rw [if_neg h0, if_pos (.inr h2)]
        rw [copyN_bad (by rw [e]; decide), e]
        have H1 := Lib.hid h1
        have H2 := Lib.hid h2
        clear e h1 h2
        go_enter Try.func17, Try.ntmps17
        go_wp2_with fail
        refine (outside_no A n c a k _ (by omega) (by have := H1.out; omega) (by have := H1.out; omega) hle hm).mono ?_
        rintro e w' ⟨rfl, rfl⟩
        go_wp2_with fail
        refine (outside_yes A n c b k _ (by omega) H2.out hle hm b0 b1).mono ?_
        rintro e w' ⟨rfl, rfl⟩
        go_wp2
        go_ret2
        exact ⟨none, 0, rfl, Arr.nil _ _ _, Below.refl _ _⟩
      · have y0 : 0 ≤ k := by omega
        have y1 : 0 ≤ a := by omega
        have y2 : k ≤ n - a := by omega
        have y3 : 0 ≤ b := by omega
        have y4 : k ≤ n - b := by omega
        have e : copyE n a b k = 0 := by unfold copyE; rw [if_neg h0, if_neg (by omega)]
        rw [copyN_ok e, e]
        clear e h1 h2
        go_enter Try.func17, Try.ntmps17
        go_wp2_with fail
        refine (outside_no A n c a k _ y0 y1 y2 hle hm).mono ?_
        rintro e w' ⟨rfl, rfl⟩
        go_wp2_with fail
        refine (outside_no A n c b k _ y0 y3 y4 hle hm).mono ?_
        rintro e w' ⟨rfl, rfl⟩
        go_wp2_with fail
        refine (refClone_any A n c f _ H.out hn).mono ?_
        rintro e w1 ⟨A1, c1, rfl, ho, hb⟩
        have HO := Lib.hid ho
        have HB := Lib.hid hb
        have hle1 := ho.le
        have hm1 := ho.2.1
        clear ho hb
        go_wp2_with fail
        go_loopw [11] (fun i wr => ∃ t : Nat, t ≤ k.toNat ∧ i = .int .i64 t ∧ Own wr w.heap.size A1 n c1 (copyF f a.toNat b.toNat t) ∧ Below w.heap.size w wr) (fun i _ => k.toNat - (intOf i).toNat)
        case atStart => exact ⟨0, Nat.zero_le _, rfl, by rw [copyF_zero]; exact HO.out, HB.out⟩
        case round =>
          obtain ⟨t, ht, rfl, hown, hbel⟩ := hrel
          by_cases hlt : t < k.toNat
          · obtain ⟨b2, o2, rfl, hb2, hsrc⟩ := (H.out.below hbel).at_ (a.toNat + t) (by omega)
            obtain ⟨g, rfl, hg1, hg2, hcell, hfree, hnew⟩ := hown.spot (b.toNat + t) (by omega) (f (a.toNat + t))
            have hb3 : Below w.heap.size w (wr.setCell ⟨g, b.toNat + t, none⟩ (.int .u64 (f (a.toNat + t)))) := hbel.setCell hg1 _
            rw [copyF_succ] at hnew
            have HN := Lib.hid hnew
            have HB2 := Lib.hid hb3
            clear hown hbel hnew hb3
            have hlt2 : (t : Int) < k := by omega
            have hx1 : 0 ≤ a + t ∧ a + t < n := by omega
            have hx2 : (a + (t : Int)).toNat = a.toNat + t := by omega
            have hx3 : 0 ≤ b + t ∧ b + t < n := by omega
            have hx4 : (b + (t : Int)).toNat = b.toNat + t := by omega
            go_wp2
            go_roundw
            case rel => exact ⟨t + 1, by omega, by go_num, HN.out, HB2.out⟩
            case measure => simp [intOf]; omega
          · have e : t = k.toNat := by omega
            have HN := Lib.hid hown
            have HB2 := Lib.hid hbel
            have HE := Lib.hid e
            clear hown hbel e
            have hlt2 : ¬ (t : Int) < k := by omega
            go_wp2
            go_ret2
            exact ⟨A1, c1, rfl, by rw [← HE.out]; exact HN.out.arr, HB2.out⟩
end Go.Proofs.Ythecjlglcnpniaa
