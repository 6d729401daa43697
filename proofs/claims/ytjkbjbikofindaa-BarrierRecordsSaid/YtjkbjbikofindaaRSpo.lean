/-
  Raw sets that are small enough (mk.Sets); sets with something changed (the law's spoilt).
-/
import Derived.Test.YtjkbjbikofindaaRCpw
import Derived.Test.YtjkbjbikofindaaRSlo
namespace Go.Proofs.Ytjkbjbikofindaa
open Go.RowKit
set_option maxRecDepth 100000
set_option linter.unusedVariables false

set_option maxHeartbeats 2000000 in
theorem mkSets_any (A : Option Addr) (c : Nat) (L : List SetR) (w : World) (hL : TArr w (Lt w.heap.size) A c L) (hs : ∀ x ∈ L, x.sl.length ≤ 140737488355328) : Calls Try.prog 6 #[.slice A L.length c] w (IffOf (L.length ≤ 40 ∧ cntT L ≤ 300) w) := by
  obtain ⟨P, hP⟩ : ∃ P : Prop, P = (L.length ≤ 40 ∧ cntT L ≤ 300) := ⟨_, rfl⟩
  rw [← hP]
  have HP := Lib.hid hP
  clear hP
  have HL := Lib.hid hL
  have HSL := Lib.hid hs
  have hm := hL.2.1
  have hm' := hL.1
  simp only [maxLen] at hm
  clear hL hs
  go_enter Try.func6, Try.ntmps6
  go_wp2_with fail
  go_loopw [3, 8] (fun n i wr => ∃ (t : Nat) (s : Int), t ≤ L.length ∧ n = .int .i64 s ∧ i = .int .i64 t ∧ (L.length ≤ 40 → s = (cntT (L.take t) : Nat)) ∧ Below w.heap.size w wr) (fun _ i _ => L.length - (intOf i).toNat)
  case atStart => exact ⟨0, 0, by omega, rfl, rfl, fun _ => rfl, Below.refl _ _⟩
  case round =>
    obtain ⟨t, s, ht, rfl, rfl, hsum, hb⟩ := hrel
    have HB := Lib.hid hb
    have HSUM := Lib.hid hsum
    clear hb hsum
    by_cases hlt : t < L.length
    · have hlt2 : 0 ≤ (t : Int) ∧ (t : Int) < L.length := by omega
      obtain ⟨x, hx⟩ := nth_of hlt
      obtain ⟨b, o, A2, c2, rfl, _, hbl, c0, c1, c2', _⟩ := (HL.out.next HB.out).at_ hx
      obtain ⟨s2, hs2⟩ : ∃ s2, s2 = IntKind.i64.wrap (s + x.sl.length) := ⟨_, rfl⟩
      have hw1 : IntKind.i64.wrap (s + x.sl.length) = s2 := hs2.symm
      have HNX : Hid (L.length ≤ 40 → s2 = (cntT (L.take (t + 1)) : Nat)) := Lib.hid (fun h => by
        have hcn := cntS_next hx
        have hle := cntS_le (B := 140737488355328) (L := L.take t) (fun y hy => HSL.out y (List.mem_of_mem_take hy))
        have hlx := HSL.out x (List.mem_iff_getElem?.2 ⟨t, hx⟩)
        have hlt3 : (L.take t).length ≤ 40 := by simp; omega
        have hmul := Nat.mul_le_mul_right 140737488355328 hlt3
        have hle2 : cntT (L.take t) ≤ 5629499534213120 := by omega
        rw [hs2, HSUM.out h, IntWalk.i64_in _ (by omega), hcn]
        omega)
      clear hx hs2
      go_wp2_with fail
      exact ⟨⟨t + 1, s2, by omega, rfl, by go_num, HNX.out, HB.out.alloc HB.out.size _⟩, by simp [intOf]; omega⟩
    · have hlt2 : ¬ (t : Int) < L.length := by omega
      obtain rfl : t = L.length := by omega
      by_cases h40 : L.length ≤ 40
      · have h40a : (L.length : Int) ≤ 40 := by omega
        have hs := HSUM.out h40
        rw [List.take_length] at hs
        subst hs
        have H40 := Lib.hid h40
        clear h40
        by_cases h300 : cntT L ≤ 300
        · have h300a : ((cntT L : Nat) : Int) ≤ 300 := by omega
          have H300 := Lib.hid h300
          clear h300
          go_wp2_with fail
          go_ret
          exact ⟨true, rfl, iff_yes (by rw [HP.out]; exact ⟨H40.out, H300.out⟩), HB.out⟩
        · have h300a : ¬ ((cntT L : Nat) : Int) ≤ 300 := by omega
          have H300 := Lib.hid h300
          clear h300
          go_wp2_with fail
          go_ret
          exact ⟨false, rfl, iff_no (fun h => by rw [HP.out] at h; exact H300.out h.2), HB.out⟩
      · have h40a : ¬ (L.length : Int) ≤ 40 := by omega
        have H40 := Lib.hid h40
        clear h40
        go_wp2_with fail
        go_ret
        exact ⟨false, rfl, iff_no (fun h => by rw [HP.out] at h; exact H40.out h.1), HB.out⟩

/-- Few sets with few slots. -/
def BndT (L : List SetR) : Prop := L.length ≤ 41 ∧ cntT L ≤ 301
theorem cnt_set : ∀ (L : List SetR) (k : Nat) (y : SetR), cntT (L.set k y) ≤ cntT L + y.sl.length
  | [], k, y => by simp [cntT]
  | x :: L, 0, y => by simp only [List.set_cons_zero, cntT, List.map_cons, List.sum_cons]; omega
  | x :: L, k + 1, y => by
    have := cnt_set L k y
    simp only [List.set_cons_succ, cntT, List.map_cons, List.sum_cons] at this ⊢
    omega
/-- Some sets, few. -/
def SomeT (w : World) (e : Ending) (w' : World) : Prop := ∃ A c L, e = .returned (.slice A L.length c) ∧ TArr w' (Lt w'.heap.size) A c L ∧ BndT L ∧ Below w.heap.size w w'
theorem row_first {w : World} {B : Nat} {S : List Int} {u : Value} (h : w.ownsRow B 3 1 u S.length (numC S)) (hn : 0 < S.length) : ∃ g cap s0, u = .slice (some ⟨g, 0, none⟩) S.length cap ∧ B ≤ g ∧ g < w.heap.size ∧ w.cell? ⟨g, 0, none⟩ = some (.int .i64 s0) ∧ w.frozen? ⟨g, 0, none⟩ = false ∧
    ∀ v : Int, ∃ T : List Int, T.length = S.length ∧ (w.setCell ⟨g, 0, none⟩ (.int .i64 v)).ownsRow B 3 1 u T.length (numC T) := by
  obtain ⟨hl, ⟨rfl, hz⟩ | ⟨g, cap, cur, rfl, hb, hg, hc, hm, hs, htk⟩⟩ := h
  · omega
  · rw [Nat.mul_one] at hs htk
    obtain ⟨s0, hs0⟩ := nth_of hn
    have hget : ∀ j, j < S.length → cur[j]? = (numC S)[j]? := fun j hj => by rw [← htk, List.getElem?_take, if_pos hj]; simp
    refine ⟨g, cap, s0, rfl, hb, blk_lt hg, by rw [cell_row hg, hget 0 hn]; exact numC_get hs0, free_row hg, fun v => ⟨S.set 0 v, by simp, ?_⟩⟩
    have hg2 := Blk.set_ (show Blk w g 3 cur from hg) 0 (.int .i64 v)
    rw [List.length_set]
    refine ⟨by simp [numC], .inr ⟨g, cap, _, rfl, hb, hg2, hc, hm, by simp [hs], ?_⟩⟩
    rw [Nat.mul_one]
    apply List.ext_getElem?
    intro j
    by_cases hj : j < S.length
    · rw [List.getElem?_take, if_pos hj]
      rcases j with _ | j
      · rw [numC_get (s := v) (by simp [hn])]
        have h1 : (cur.setIfInBounds 0 (.int .i64 v))[0]? = some (.int .i64 v) := Array.getElem?_setIfInBounds_self_of_lt (by omega)
        show (cur.setIfInBounds 0 _).toList[0]? = _
        rw [Array.getElem?_toList]
        exact h1
      · have h1 := hget (j + 1) hj
        simp [numC] at h1 ⊢
        exact h1
    · rw [List.getElem?_eq_none (by simp; omega), List.getElem?_eq_none (by simp [numC]; omega)]

end Go.Proofs.Ytjkbjbikofindaa
