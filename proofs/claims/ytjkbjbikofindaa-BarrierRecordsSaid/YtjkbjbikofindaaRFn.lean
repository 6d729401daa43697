/-
  The reference's small functions over remembered sets: numbers of frames, order, a number in a list, a number more, lists compared, slots counted.
-/
import Derived.Test.YtjkbjbikofindaaRRow
import Derived.BigQuiet
import Derived.Deep.QuietTactic
import Derived.Deep.RegionLaw
import Derived.StillTailTactics
namespace Go.Proofs.Ytjkbjbikofindaa
open Go.RowKit
set_option maxRecDepth 100000
set_option linter.unusedVariables false

theorem step_wp {P : Program} {ops : Array Oper} {o : Oper} {a : Act} {w : World} {K : Act → World → Prop} {Q : Exit → Act → World → Prop} {E : Prop} (hg : o.guard = none) (h : Oper.wp P o a w K Q) :
    if Region.wanted o (yielded ops a.tmps) = true then Oper.wp P o a w K Q else E := by
  rw [if_pos (by simp [Region.wanted, hg])]
  exact h

theorem step_append_none {P : Program} {ops : Array Oper} {o : Oper} {a : Act} {w : World} {K : Act → World → Prop} {Q : Exit → Act → World → Prop} {E : Prop} (hgd : o.guard = none) (s x : Operand) (t : TypeId)
    (ho : o.op = .call { callee := .builtin .append, args := #[s, x], argTypes := #[t, t] })
    (base : Nat) (e : TypeId) (i : TypeInfo) (size : Nat) (ht : P.underlying t = some (.slice e)) (hi : P.info? e = some i)
    (v : Value) (n : Nat) (xs : List Value) (hs : a.eval s = v) (hown : w.ownsRow base e size v n xs) (hx : a.eval x = .slice none 0 0)
    (h : K (a.put o.dst v) w) : if Region.wanted o (yielded ops a.tmps) = true then Oper.wp P o a w K Q else E := by
  refine step_wp hgd ?_
  have hrun := run_append_owned_none (P := P) (w := w) base t o.type e i size ht hi v n xs hown
  unfold Oper.wp
  simp [execOp, ho, resolve, invoke, builtin, hs, hx, hrun, Result.andThen]
  exact h

/-- append of numbers that may be read to a row of the call's own, as a step of a region that draws. -/
theorem step_append_sarr {P : Program} {ops : Array Oper} {o : Oper} {a : Act} {w : World} {K : Act → World → Prop} {Q : Exit → Act → World → Prop} {E : Prop} (hgd : o.guard = none) (s x : Operand) (t : TypeId)
    (ho : o.op = .call { callee := .builtin .append, args := #[s, x], argTypes := #[t, t] })
    (base : Nat) (e : TypeId) (i : TypeInfo) (z : Value) (bytes : Nat) (ht : P.underlying t = some (.slice e)) (hi : P.info? e = some i) (hz : i.zero = some z) (hsize : i.size = 1) (hby : i.bytes = bytes) (hzs : z.cells.size = 1)
    (v : Value) (n : Nat) (xs : List Value) (hs : a.eval s = v) (hown : w.ownsRow base e 1 v n xs) (A : Option Addr) (m c : Nat) (S : List Int) (Pb : Nat → Prop) (hx : a.eval x = .slice A m c) (hm : m = S.length) (hS : SArr w Pb A c S)
    (h63 : n + m ≤ maxLen) (hbytes : (n + m) * bytes ≤ 140737488355328) (hbase : base ≤ w.heap.size)
    (h : ∀ v' w', w'.ownsRow base e 1 v' (n + m) (xs ++ numC S) → w.grownBy w' v.ownBlock → K (a.put o.dst v') w') : if Region.wanted o (yielded ops a.tmps) = true then Oper.wp P o a w K Q else E := by
  subst hm
  rcases A with _ | ad
  · have hc := hS.2.2.1 rfl
    have hl := hS.1
    have hI : S = [] := List.length_eq_zero_iff.1 (by omega)
    subst hI hc
    refine step_append_none hgd s x t ho base e i 1 ht hi v n xs hs hown hx ?_
    exact h v w (by simpa [numC] using hown) ⟨rfl, rfl, rfl, Nat.le_refl _, fun _ _ _ => rfl⟩
  · have hcs : ∀ (j : Nat) (u : Value), (numC S)[j]? = some u → w.cell? (ad.add j) = some u := by
      intro j u hu
      have hj := get_lt hu
      rw [numC_length] at hj
      obtain ⟨b, o, e, _⟩ := hS.2.2.2 (by omega)
      injection e with e
      subst e
      exact hS.cells j u hu
    exact step_wp hgd (wp_append_own w s x t ho base e i z 1 bytes ht hi hz hsize hby hzs (by decide) v n xs hs hown ad S.length c (numC S) hx (by rw [numC_length, Nat.mul_one]) hcs (numC_one S) h63 hbytes hbase fun v' w' h1 h2 _ => h v' w' h1 h2)

set_option maxHeartbeats 1000000 in
theorem number_any (f : Int) (w : World) : Calls Try.prog 61 #[.int .i64 f] w fun e w' => e = .returned (.bool (decide (numP f))) ∧ w' = w := by
  by_cases h0 : 0 ≤ f
  · by_cases h1 : f < 64
    · rw [decide_eq_true (show numP f from ⟨h0, h1⟩)]
      go_enter Try.func61, Try.ntmps61
      go_wp2
      go_ret
      exact ⟨rfl, rfl⟩
    · rw [decide_eq_false (show ¬ numP f from fun h => h1 h.2)]
      go_enter Try.func61, Try.ntmps61
      go_wp2
      go_ret
      exact ⟨rfl, rfl⟩
  · rw [decide_eq_false (show ¬ numP f from fun h => h0 h.1)]
    go_enter Try.func61, Try.ntmps61
    go_wp2
    go_ret
    exact ⟨rfl, rfl⟩

set_option maxHeartbeats 1000000 in
theorem before_any (f t g u : Int) (A1 A2 : Option Addr) (n1 c1 n2 c2 : Nat) (w : World) :
    Calls Try.prog 39 #[.agg #[.int .i64 f, .int .i64 t, .slice A1 n1 c1], .agg #[.int .i64 g, .int .i64 u, .slice A2 n2 c2]] w fun e w' => e = .returned (.bool (decide (bef f t g u))) ∧ Below w.heap.size w w' := by
  obtain ⟨U, hU⟩ : ∃ U, U = (w.alloc (.cells #[.int .i64 f, .int .i64 t, .slice A1 n1 c1] 57)).alloc (.cells #[.int .i64 g, .int .i64 u, .slice A2 n2 c2] 57) := ⟨_, rfl⟩
  have B1 : Blk U w.heap.size 57 #[.int .i64 f, .int .i64 t, .slice A1 n1 c1] := by rw [hU]; exact (Blk.new _ _ _).alloc _
  have B2 : Blk U (w.heap.size + 1) 57 #[.int .i64 g, .int .i64 u, .slice A2 n2 c2] := by rw [hU]; exact Blk.newAt _ _ _ _ (by simp)
  have HBU : Hid (Below w.heap.size w U) := by rw [hU]; exact Lib.hid (((Below.refl _ _).alloc (Nat.le_refl _) _).alloc (by simp) _)
  have HU := Lib.hid hU
  have p0 := B1.cell 0
  have p1 := B1.cell 1
  have r0 := B2.cell 0
  have r1 := B2.cell 1
  simp at p0 p1 r0 r1
  clear hU B1 B2
  by_cases h0 : f < g
  · rw [decide_eq_true (show bef f t g u from .inl h0)]
    go_enter Try.func39, Try.ntmps39
    go_upto_region 1 with fail
    rw [← HU.out]
    go_wp2
    go_ret
    exact ⟨rfl, HBU.out⟩
  · by_cases h1 : f = g
    · subst h1
      by_cases h2 : t < u
      · rw [decide_eq_true (show bef f t f u from .inr ⟨rfl, h2⟩)]
        go_enter Try.func39, Try.ntmps39
        go_upto_region 1 with fail
        rw [← HU.out]
        go_wp2
        go_ret
        exact ⟨rfl, HBU.out⟩
      · rw [decide_eq_false (show ¬ bef f t f u by unfold bef; omega)]
        go_enter Try.func39, Try.ntmps39
        go_upto_region 1 with fail
        rw [← HU.out]
        go_wp2
        go_ret
        exact ⟨rfl, HBU.out⟩
    · rw [decide_eq_false (show ¬ bef f t g u by unfold bef; omega)]
      go_enter Try.func39, Try.ntmps39
      go_upto_region 1 with fail
      rw [← HU.out]
      go_wp2
      go_ret
      exact ⟨rfl, HBU.out⟩

set_option maxHeartbeats 1000000 in
theorem refSameInts_any (A B : Option Addr) (c d : Nat) (I J : List Int) (w : World) (hI : SArr w (Lt w.heap.size) A c I) (hJ : SArr w (Lt w.heap.size) B d J) :
    Calls Try.prog 34 #[.slice A I.length c, .slice B J.length d] w (IffOf (I = J) w) := by
  have HI := Lib.hid hI
  have HJ := Lib.hid hJ
  have hm := hI.2.1
  have hm' := hI.1
  have hk := hJ.2.1
  have hk' := hJ.1
  simp only [maxLen] at hm hk
  clear hI hJ
  by_cases hl : I.length = J.length
  · have hl1 : ((I.length : Int) == J.length) = true := by simp; omega
    go_enter Try.func34, Try.ntmps34
    go_wp2_with fail
    go_loopw [13] (fun i wr => ∃ t : Nat, t ≤ I.length ∧ i = .int .i64 t ∧ (∀ (j : Nat), j < t → I[j]? = J[j]?) ∧ Below w.heap.size w wr) (fun i _ => I.length - (intOf i).toNat)
    case atStart => exact ⟨0, by omega, rfl, fun j hj => by omega, Below.refl _ _⟩
    case round =>
      obtain ⟨t, ht, rfl, hno, hb⟩ := hrel
      have HN := Lib.hid hno
      have HB := Lib.hid hb
      clear hno hb
      by_cases hlt : t < I.length
      · have hlt2 : 0 ≤ (t : Int) ∧ (t : Int) < I.length := by omega
        have hlt3 : 0 ≤ (t : Int) ∧ (t : Int) < J.length := by omega
        obtain ⟨i, hi⟩ := nth_of hlt
        obtain ⟨j, hj⟩ := nth_of (show t < J.length by omega)
        obtain ⟨b, o, rfl, _, _, c0⟩ := (HI.out.next HB.out).at_ hi
        obtain ⟨b', o', rfl, _, _, d0⟩ := (HJ.out.next HB.out).at_ hj
        have HX := Lib.hid hi
        have HY := Lib.hid hj
        obtain ⟨q, hq⟩ : ∃ q, q = (i == j) := ⟨_, rfl⟩
        have hne : (i == j) = q := hq.symm
        have HQ := Lib.hid hq
        clear hi hj hk hk' hq
        go_wp2_with fail
        go_region
        cases q with
        | true =>
          go_wp2_with fail
          refine ⟨⟨t + 1, by omega, by go_num, fun j hj => ?_, HB.out.drew⟩, by simp [intOf]; omega⟩
          rcases (by omega : j < t ∨ j = t) with h | h
          · exact HN.out j h
          · subst h
            have := HQ.out
            rw [HX.out, HY.out]
            simp at this
            rw [this]
        | false =>
          go_wp2_with fail
          go_ret
          exact ⟨false, rfl, iff_no (fun h => by have := HQ.out; have hx := HX.out; rw [h, HY.out] at hx; injection hx with e; simp at this; exact this e.symm), HB.out.drew⟩
      · have hlt2 : ¬ (t : Int) < I.length := by omega
        have HX := Lib.hid (show I = J from by
          apply List.ext_getElem?
          intro j
          rcases Nat.lt_or_ge j t with h | h
          · exact HN.out j h
          · rw [List.getElem?_eq_none (by omega), List.getElem?_eq_none (by omega)])
        go_wp2_with fail
        go_ret
        exact ⟨true, rfl, iff_yes HX.out, HB.out⟩
  · have hl1 : ((I.length : Int) == J.length) = false := by simp; omega
    go_enter Try.func34, Try.ntmps34
    go_wp2_with fail
    go_ret
    exact ⟨false, rfl, iff_no (fun h => hl (by rw [h])), Below.refl _ _⟩
end Go.Proofs.Ytjkbjbikofindaa
