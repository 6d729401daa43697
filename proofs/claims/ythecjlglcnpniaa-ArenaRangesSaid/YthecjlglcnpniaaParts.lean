/-
  What a range that is filled or copied holds; the closures of Read and Fill.
-/
import Derived.Test.YthecjlglcnpniaaClone
import Derived.IntWalk
namespace Go.Proofs.Ythecjlglcnpniaa
open Go.RowKit
set_option linter.unusedVariables false

/-- The error of a range of k words from a on, of n words. -/
def outE (n : Nat) (a k : Int) : Int := if k < 0 then 1 else if a < 0 ∨ n - a < k then 2 else 0
def putF (f : Nat → Int) (a k : Nat) (v : Int) : Nat → Int := fun j => if a ≤ j ∧ j < a + k then v else f j
def copyF (f : Nat → Int) (p q k : Nat) : Nat → Int := fun j => if q ≤ j ∧ j < q + k then f (p + (j - q)) else f j

theorem putF_zero (f : Nat → Int) (a : Nat) (v : Int) : putF f a 0 v = f := by
  funext j
  unfold putF
  rw [if_neg (by omega)]
theorem putF_succ (f : Nat → Int) (a k : Nat) (v : Int) : (fun j => if j = a + k then v else putF f a k v j) = putF f a (k + 1) v := by
  funext j
  unfold putF
  by_cases h : j = a + k
  · rw [if_pos h, if_pos (by omega)]
  · rw [if_neg h]
    by_cases h2 : a ≤ j ∧ j < a + k
    · rw [if_pos h2, if_pos (by omega)]
    · rw [if_neg h2, if_neg (by omega)]
theorem copyF_zero (f : Nat → Int) (p q : Nat) : copyF f p q 0 = f := by
  funext j
  unfold copyF
  rw [if_neg (by omega)]
theorem copyF_succ (f : Nat → Int) (p q k : Nat) : (fun j => if j = q + k then f (p + k) else copyF f p q k j) = copyF f p q (k + 1) := by
  funext j
  unfold copyF
  by_cases h : j = q + k
  · rw [if_pos h, if_pos (by omega)]
    congr 1
    omega
  · rw [if_neg h]
    by_cases h2 : q ≤ j ∧ j < q + k
    · rw [if_pos h2, if_pos (by omega)]
    · rw [if_neg h2, if_neg (by omega)]

/-- What span hands back of a row of the call's own, or of any slice: a place of it. -/
theorem span_spot {w : World} {B n c : Nat} {A : Option Addr} {f : Nat → Int} {a k : Int} (h : Arr w B A n c f) (h1 : 0 ≤ a) (h2 : k ≤ n - a) (i : Nat) (hi : i < k.toNat) :
    ∃ b o, A = some ⟨b, o, none⟩ ∧ b < B ∧ spanA A c a = some ⟨b, o + a.toNat, none⟩ ∧ w.cell? ⟨b, o + a.toNat + i, none⟩ = some (.int .u64 (f (a.toNat + i))) := by
  obtain ⟨b, o, rfl, hb, hc⟩ := h.at_ (a.toNat + i) (by omega)
  have hle := h.le
  refine ⟨b, o, rfl, hb, ?_, by rw [Nat.add_assoc]; exact hc⟩
  unfold spanA
  rw [if_neg (by omega)]
  simp [add_at]

/-- The closure of Read, where the word exists. -/
theorem readIn_ok (A : Option Addr) (n c : Nat) (f : Nat → Int) (a : Int) (p q : Nat) (w : World) (B : Nat) (h : Arr w B A n c f) (h1 : 0 ≤ a) (h2 : a < n)
    (hp : w.cell? ⟨p, 0, none⟩ = some (.slice A n c)) (hq : w.cell? ⟨q, 0, none⟩ = some (.int .i64 a)) :
    Calls Try.prog 22 #[.pointer (some ⟨p, 0, none⟩), .pointer (some ⟨q, 0, none⟩)] w fun e w' => e = .returned (.int .u64 (f a.toNat)) ∧ w = w' := by
  obtain ⟨b, o, hA, hb, hs, hc⟩ := span_spot (k := 1) h h1 (by omega) 0 (by simp)
  have hcA := h.2.2.1
  have hle := h.1
  have hm := h.2.1
  have HS := Lib.hid hs
  have HC := Lib.hid hcA
  clear hs hcA h hA
  go_enter Try.func22, Try.ntmps22
  go_wp2_with fail
  refine (span_ok A n c a 1 _ (by omega) h1 (by omega) hle hm HC.out).mono ?_
  rintro e w' ⟨rfl, rfl⟩
  rw [HS.out]
  rw [Nat.add_zero, Nat.add_zero] at hc
  go_wp2
  go_ret
  exact ⟨rfl, rfl⟩

theorem readIn_out (A : Option Addr) (n c : Nat) (a : Int) (p q : Nat) (w : World) (hle : n ≤ c) (hm : c ≤ maxLen) (h2 : a < 0 ∨ n ≤ a) (b0 : -9223372036854775808 ≤ a) (b1 : a ≤ 9223372036854775807)
    (hp : w.cell? ⟨p, 0, none⟩ = some (.slice A n c)) (hq : w.cell? ⟨q, 0, none⟩ = some (.int .i64 a)) :
    Calls Try.prog 22 #[.pointer (some ⟨p, 0, none⟩), .pointer (some ⟨q, 0, none⟩)] w fun e w' => e = .panicked (Fault 2) ∧ w = w' := by
  go_enter Try.func22, Try.ntmps22
  go_wp2_with fail
  refine (span_out A n c a 1 _ (by omega) (by omega) hle hm b0 b1).mono ?_
  rintro e w' ⟨rfl, rfl⟩
  exact ⟨rfl, rfl, rfl⟩

/-- A slice of n words of the call's own, that read as f. -/
def OwnV (base n : Nat) (f : Nat → Int) (v : Value) (w' : World) : Prop := ∃ A c, v = .slice A n c ∧ Own w' base A n c f

/-- The closure of Fill, where the words exist. -/
theorem fillIn_ok (A : Option Addr) (n c : Nat) (f : Nat → Int) (a k v : Int) (p q r s : Nat) (w : World) (h : Arr w w.heap.size A n c f) (hn : n ≤ 1048576) (h0 : 0 ≤ k) (h1 : 0 ≤ a) (h2 : k ≤ n - a)
    (hp : w.cell? ⟨p, 0, none⟩ = some (.slice A n c)) (hq : w.cell? ⟨q, 0, none⟩ = some (.int .i64 a)) (hr : w.cell? ⟨r, 0, none⟩ = some (.int .i64 k)) (hs : w.cell? ⟨s, 0, none⟩ = some (.int .u64 v)) :
    Calls Try.prog 28 #[.pointer (some ⟨p, 0, none⟩), .pointer (some ⟨q, 0, none⟩), .pointer (some ⟨r, 0, none⟩), .pointer (some ⟨s, 0, none⟩)] w
      (Gives (OwnV w.heap.size n (putF f a.toNat k.toNat v)) w.heap.size w) := by
  have HA := Lib.hid h
  have lq := cell_lt hq
  have lr := cell_lt hr
  have ls := cell_lt hs
  clear h
  go_enter Try.func28, Try.ntmps28
  go_wp2_with fail
  refine (clone_any A n c f w HA.out hn).mono ?_
  rintro e w1 ⟨A1, c1, rfl, ho, hb⟩
  have hq1 : w1.cell? ⟨q, 0, none⟩ = some (.int .i64 a) := (hb.cell (p := ⟨q, 0, none⟩) lq).trans hq
  have hr1 : w1.cell? ⟨r, 0, none⟩ = some (.int .i64 k) := (hb.cell (p := ⟨r, 0, none⟩) lr).trans hr
  have hs1 : w1.cell? ⟨s, 0, none⟩ = some (.int .u64 v) := (hb.cell (p := ⟨s, 0, none⟩) ls).trans hs
  have hle := ho.le
  have hm := ho.2.1
  have HO := Lib.hid ho
  have HB := Lib.hid hb
  have hcA : A1 = none → c1 = 0 := ho.arr.2.2.1
  have HC := Lib.hid hcA
  clear ho hb hp hq hr hcA
  go_wp2_with fail
  refine (span_ok A1 n c1 a k _ h0 h1 h2 hle hm HC.out).mono ?_
  rintro e w' ⟨rfl, rfl⟩
  go_wp2_with fail
  go_loopw [16] (fun i wr => ∃ t : Nat, t ≤ k.toNat ∧ i = .int .i64 t ∧ Own wr w.heap.size A1 n c1 (putF f a.toNat t v) ∧ Below w.heap.size w wr) (fun i _ => k.toNat - (intOf i).toNat)
  case atStart => exact ⟨0, Nat.zero_le _, rfl, by rw [putF_zero]; exact HO.out, HB.out⟩
  case round =>
    obtain ⟨t, ht, rfl, hown, hbel⟩ := hrel
    by_cases hlt : t < k.toNat
    · obtain ⟨g, rfl, hg1, hg2, hcell, hfree, hnew⟩ := hown.spot (a.toNat + t) (by omega) v
      have hsp : spanA (some ⟨g, 0, none⟩) c1 a = some ⟨g, a.toNat, none⟩ := by
        unfold spanA
        rw [if_neg (by omega)]
        simp [add_at]
      have hs2 : wr.cell? ⟨s, 0, none⟩ = some (.int .u64 v) := (hbel.cell (p := ⟨s, 0, none⟩) ls).trans hs
      have hb2 : Below w.heap.size w (wr.setCell ⟨g, a.toNat + t, none⟩ (.int .u64 v)) := hbel.setCell hg1 _
      rw [putF_succ] at hnew
      have HN := Lib.hid hnew
      have HB2 := Lib.hid hb2
      rw [hsp]
      clear hown hbel hnew hb2 hs1 hq1 hr1 hs
      have hlt2 : (t : Int) < (k.toNat : Int) := by omega
      go_wp2
      go_roundw
      case rel => exact ⟨t + 1, by omega, by go_num, HN.out, HB2.out⟩
      case measure => simp [intOf]; omega
    · have e : t = k.toNat := by omega
      have HN := Lib.hid hown
      have HB2 := Lib.hid hbel
      have HE := Lib.hid e
      clear hown hbel e hs1 hq1 hr1 hs
      have hlt2 : ¬ (t : Int) < (k.toNat : Int) := by omega
      go_wp2
      go_ret
      exact ⟨_, rfl, ⟨A1, c1, rfl, by rw [← HE.out]; exact HN.out⟩, HB2.out⟩
end Go.Proofs.Ythecjlglcnpniaa
