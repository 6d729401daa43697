/-
  The closures of Fill and Copy, where the words don't exist; the closure of Copy.
-/
import Derived.Test.YthecjlglcnpniaaParts
import Derived.StillTailTactics
import Derived.Laws.CopyOwn
import Derived.Orders
namespace Go.Proofs.Ythecjlglcnpniaa
open Go.RowKit
set_option linter.unusedVariables false

theorem outE_neg {n : Nat} {a k : Int} (h : k < 0) : outE n a k = 1 := by unfold outE; rw [if_pos h]
theorem outE_out {n : Nat} {a k : Int} (h : 0 ≤ k) (h2 : a < 0 ∨ n - a < k) : outE n a k = 2 := by unfold outE; rw [if_neg (by omega), if_pos h2]
theorem outE_ok {n : Nat} {a k : Int} (h : 0 ≤ k) (h1 : 0 ≤ a) (h2 : k ≤ n - a) : outE n a k = 0 := by unfold outE; rw [if_neg (by omega), if_neg (by omega)]

/-- span of words that don't exist panics with their error. -/
theorem span_bad (A : Option Addr) (n c : Nat) (a k : Int) (w : World) (h : outE n a k ≠ 0) (hc : n ≤ c) (hm : c ≤ maxLen) (b0 : -9223372036854775808 ≤ a) (b1 : a ≤ 9223372036854775807) :
    Calls Try.prog 23 #[.slice A n c, .int .i64 a, .int .i64 k] w fun e w' => e = .panicked (Fault (outE n a k)) ∧ w = w' := by
  by_cases h0 : k < 0
  · rw [outE_neg h0]
    exact span_neg A n c a k w h0
  · by_cases h1 : a < 0 ∨ n - a < k
    · rw [outE_out (by omega) h1]
      exact span_out A n c a k w (by omega) h1 hc hm b0 b1
    · exact absurd (outE_ok (by omega) (by omega) (by omega)) h

theorem fillIn_bad (A : Option Addr) (n c : Nat) (f : Nat → Int) (a k v : Int) (p q r s : Nat) (w : World) (h : Arr w w.heap.size A n c f) (hn : n ≤ 1048576) (hE : outE n a k ≠ 0) (b0 : -9223372036854775808 ≤ a) (b1 : a ≤ 9223372036854775807)
    (hp : w.cell? ⟨p, 0, none⟩ = some (.slice A n c)) (hq : w.cell? ⟨q, 0, none⟩ = some (.int .i64 a)) (hr : w.cell? ⟨r, 0, none⟩ = some (.int .i64 k)) :
    Calls Try.prog 28 #[.pointer (some ⟨p, 0, none⟩), .pointer (some ⟨q, 0, none⟩), .pointer (some ⟨r, 0, none⟩), .pointer (some ⟨s, 0, none⟩)] w (Fails (outE n a k) w.heap.size w) := by
  have HA := Lib.hid h
  have lq := cell_lt hq
  have lr := cell_lt hr
  have HE := Lib.hid hE
  clear h hE
  go_enter Try.func28, Try.ntmps28
  go_wp2_with fail
  refine (clone_any A n c f w HA.out hn).mono ?_
  rintro e w1 ⟨A1, c1, rfl, ho, hb⟩
  have hq1 : w1.cell? ⟨q, 0, none⟩ = some (.int .i64 a) := (hb.cell (p := ⟨q, 0, none⟩) lq).trans hq
  have hr1 : w1.cell? ⟨r, 0, none⟩ = some (.int .i64 k) := (hb.cell (p := ⟨r, 0, none⟩) lr).trans hr
  have hle := ho.le
  have hm := ho.2.1
  have HB := Lib.hid hb
  clear ho hb hp hq hr
  go_wp2_with fail
  refine (span_bad A1 n c1 a k _ HE.out hle hm b0 b1).mono ?_
  rintro e w' ⟨rfl, rfl⟩
  exact ⟨rfl, rfl, HB.out⟩

theorem own_splice {w : World} {base g n c : Nat} {f : Nat → Int} {cur : List Value} {p q k : Nat} (hb : base ≤ g) (hn : n ≤ c) (hm : c ≤ maxLen) (hl : cur.length = c) (hq : q + k ≤ n) (hc : ∀ j, j < n → cur[j]? = some (.int .u64 (f j)))
    (h : w.heap[g]? = some (.cells (splice cur q (wordsOf k (fun j => f (p + j)))).toArray 23 (0, 0))) : Own w base (some ⟨g, 0, none⟩) n c (copyF f p q k) := by
  refine ⟨hn, hm, .inr ⟨g, _, rfl, hb, h, ?_, fun j hj => ?_⟩⟩
  · rw [List.size_toArray, length_splice _ _ _ (by rw [wordsOf_length]; omega)]
    exact hl
  · rw [List.getElem?_toArray]
    unfold splice copyF
    rw [wordsOf_length]
    by_cases h1 : j < q
    · rw [List.getElem?_append_left (by rw [List.length_take]; omega), List.getElem?_take_of_lt h1, hc j hj, if_neg (by omega)]
    · rw [List.getElem?_append_right (by rw [List.length_take]; omega), List.length_take, Nat.min_eq_left (by omega)]
      by_cases h2 : j < q + k
      · rw [List.getElem?_append_left (by rw [wordsOf_length]; omega), wordsOf_get _ _ _ (by omega), if_pos (by omega)]
      · rw [List.getElem?_append_right (by rw [wordsOf_length]; omega), wordsOf_length, List.getElem?_drop, if_neg (by omega), show q + k + (j - q - k) = j by omega]
        exact hc j hj

theorem span_still (A : Option Addr) (n c : Nat) (a k : Int) (w : World) (h0 : 0 ≤ k) (h1 : 0 ≤ a) (h2 : k ≤ n - a) (hc : n ≤ c) (hm : c ≤ maxLen) (hA : A = none → c = 0) :
    Calls Try.prog 23 #[.slice A n c, .int .i64 a, .int .i64 k] w fun e w' => e = .returned (.slice (spanA A c a) k.toNat (c - a.toNat)) ∧ w' = w :=
  (span_ok A n c a k w h0 h1 h2 hc hm hA).mono fun _ _ h => ⟨h.1, h.2.symm⟩

/-- The closure of Copy, where the words exist. -/
theorem copyIn_ok (A : Option Addr) (n c : Nat) (f : Nat → Int) (a b k : Int) (p q r s : Nat) (w : World) (h : Arr w w.heap.size A n c f) (hn : n ≤ 1048576) (h0 : 0 ≤ k) (h1 : 0 ≤ a) (h2 : k ≤ n - a) (h3 : 0 ≤ b) (h4 : k ≤ n - b)
    (hp : w.cell? ⟨p, 0, none⟩ = some (.slice A n c)) (hq : w.cell? ⟨q, 0, none⟩ = some (.int .i64 b)) (hr : w.cell? ⟨r, 0, none⟩ = some (.int .i64 k)) (hs : w.cell? ⟨s, 0, none⟩ = some (.int .i64 a)) :
    Calls Try.prog 25 #[.pointer (some ⟨p, 0, none⟩), .pointer (some ⟨q, 0, none⟩), .pointer (some ⟨r, 0, none⟩), .pointer (some ⟨s, 0, none⟩)] w
      (Gives (OwnV w.heap.size n (copyF f a.toNat b.toNat k.toNat)) w.heap.size w) := by
  have HA := Lib.hid h
  have lp := cell_lt hp
  have lq := cell_lt hq
  have lr := cell_lt hr
  have ls := cell_lt hs
  have hleA := h.1
  have hmA := h.2.1
  have HcA := Lib.hid h.2.2.1
  clear h
  go_enter Try.func25, Try.ntmps25
  go_wp2_with fail
  refine (clone_any A n c f w HA.out hn).mono ?_
  rintro e w1 ⟨A1, c1, rfl, ho, hb⟩
  have hp1 : w1.cell? ⟨p, 0, none⟩ = some (.slice A n c) := (hb.cell (p := ⟨p, 0, none⟩) lp).trans hp
  have hq1 : w1.cell? ⟨q, 0, none⟩ = some (.int .i64 b) := (hb.cell (p := ⟨q, 0, none⟩) lq).trans hq
  have hr1 : w1.cell? ⟨r, 0, none⟩ = some (.int .i64 k) := (hb.cell (p := ⟨r, 0, none⟩) lr).trans hr
  have hs1 : w1.cell? ⟨s, 0, none⟩ = some (.int .i64 a) := (hb.cell (p := ⟨s, 0, none⟩) ls).trans hs
  have HA1 := Lib.hid (HA.out.below hb)
  have hle := ho.le
  have hm := ho.2.1
  have HO := Lib.hid ho
  have HB := Lib.hid hb
  have hcA : A1 = none → c1 = 0 := ho.arr.2.2.1
  have HC := Lib.hid hcA
  clear ho hb hp hq hr hs hcA
  go_wp2_with fail
  have HO2 : Hid (Own w1.drew w.heap.size A1 n c1 f) := Lib.hid HO.out
  have HB2 : Hid (Below w.heap.size w w1.drew) := Lib.hid HB.out.drew
  have HA2 : Hid (Arr w1.drew w.heap.size A n c f) := Lib.hid HA1.out
  go_still_tail 8, (by kernel_rfl)
  still_call (span_still A1 n c1 b k _ h0 h3 h4 hle hm HC.out)
  repeat still_step
  still_call (span_still A n c a k _ h0 h1 h2 hleA hmA HcA.out)
  refine wpStill_nil ?_
  change wpList _ _ _ _ _ w1.drew
  clear HO HB HA1 hp1 hq1 hr1 hs1 HA
  generalize w1.drew = w2 at *
  by_cases hk : k = 0
  · have e1 : k.toNat = 0 := by omega
    rw [e1]
    refine wpList_copy_nothing rfl _ _ 22 22 rfl 23 Try.underlying22 (by kernel_rfl) _ _ _ _ _ _ rfl rfl (by simp) ?_
    clear hk h0 h2 h4
    go_wp2
    go_ret
    exact ⟨_, rfl, ⟨A1, c1, rfl, by rw [e1, copyF_zero]; exact HO2.out⟩, HB2.out⟩
  · have hkp : 0 < k.toNat := by omega
    obtain ⟨b0, o0, hA0, hlb, hsA, _⟩ := span_spot HA2.out h1 h2 0 hkp
    obtain ⟨hn1, hm1, hor⟩ := HO2.out
    rcases hor with ⟨_, hc0⟩ | ⟨g, cur, hg0, hbg, hheap, hsz, hcur⟩
    · omega
    · have hsB : spanA A1 c1 b = some ⟨g, b.toNat, none⟩ := by
        unfold spanA
        rw [if_neg (by omega), hg0]
        simp [add_at]
      rw [hsA, hsB]
      refine wpList_copy_splice rfl _ _ 22 22 rfl 23 Try.underlying22 (by kernel_rfl) _ _ _ _ _ _ rfl rfl g b.toNat cur.toList 23 (by rw [Array.toArray_toList]; exact hheap) (wordsOf k.toNat (fun j => f (a.toNat + j))) (by rw [wordsOf_length]; exact (Nat.min_self _).symm) ?h1
        (by rw [wordsOf_length, Array.length_toList]; omega) (wordsOf_one _ _) w.heap.size w HB2.out hbg ?h2
      case h1 =>
        intro _
        refine ⟨rfl, _, rfl, fun j u hu => ?_⟩
        obtain ⟨hj, rfl⟩ := wordsOf_get' hu
        obtain ⟨b1, o1, hA1, _, hsA1, hcell⟩ := span_spot HA2.out h1 h2 j hj
        rw [hsA] at hsA1
        injection hsA1 with hsA1
        rw [add_at]
        injection hsA1 with q1 q2
        rw [q1, q2]
        exact hcell
      case h2 =>
        intro w3 HG HB3
        have HN : Hid (Own w3 w.heap.size A1 n c1 (copyF f a.toNat b.toNat k.toNat)) := by
          rw [hg0]
          exact Lib.hid (own_splice hbg hn1 hm1 (by simpa using hsz) (by omega) (fun j hj => by simpa using hcur j hj) HG.out)
        have HB4 := Lib.hid HB3
        clear HG HB3 hheap hsz hcur hsA hsB hA0 HA2 HO2 HB2 hg0
        go_wp2
        go_ret
        exact ⟨_, rfl, ⟨A1, c1, rfl, HN.out⟩, HB4.out⟩
end Go.Proofs.Ythecjlglcnpniaa
