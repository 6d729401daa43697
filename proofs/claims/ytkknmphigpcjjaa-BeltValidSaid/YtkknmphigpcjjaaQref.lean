/-
  Valid of the reference of layer 11: Sound.
-/
import Derived.Test.YtkknmphigpcjjaaQval
import Derived.Deep.RegionHeld3
namespace Go.Proofs.Ytkknmphigpcjjaa
open Go.RowKit
set_option maxRecDepth 100000
set_option linter.unusedVariables false

/-- The increments ahead of the t-th one of belt b. -/
def preQ (Q : List (List IncR)) (b t : Nat) : List IncR := (Q.take b).flatten ++ ((Q[b]?).getD []).take t
theorem preQ_zero (Q : List (List IncR)) (b : Nat) : preQ Q b 0 = (Q.take b).flatten := by simp [preQ]
theorem preQ_next {Q : List (List IncR)} {b t : Nat} {q : List IncR} {i : IncR} (h : Q[b]? = some q) (hi : q[t]? = some i) : preQ Q b (t + 1) = preQ Q b t ++ [i] := by
  simp only [preQ, h, Option.getD_some]
  rw [List.take_add_one, hi, List.append_assoc]
  rfl
theorem preQ_row {Q : List (List IncR)} {b : Nat} {q : List IncR} (h : Q[b]? = some q) : preQ Q b q.length = preQ Q (b + 1) 0 := by
  rw [preQ_zero, List.take_add_one, h]
  simp [preQ, h]
theorem preQ_end (Q : List (List IncR)) : preQ Q Q.length 0 = Q.flatten := by rw [preQ_zero, List.take_length]
theorem preQ_len {Q : List (List IncR)} {b t : Nat} {q : List IncR} (h : Q[b]? = some q) (ht : t ≤ q.length) : (preQ Q b t).length ≤ Q.flatten.length := by
  have e : Q = Q.take b ++ q :: Q.drop (b + 1) := by
    obtain ⟨hb, hq⟩ := List.getElem?_eq_some_iff.1 h
    rw [← hq, List.getElem_cons_drop, List.take_append_drop]
  have e2 : Q.flatten.length = (Q.take b).flatten.length + q.length + (Q.drop (b + 1)).flatten.length := by
    conv => lhs; rw [e]
    simp [List.flatten_append]
    omega
  rw [e2]
  simp [preQ, h]
  omega
theorem preQ_mem {Q : List (List IncR)} {b t : Nat} {i : IncR} (h : i ∈ preQ Q b t) : (∃ b' q', b' < b ∧ Q[b']? = some q' ∧ i ∈ q') ∨ ∃ q j, Q[b]? = some q ∧ j < t ∧ q[j]? = some i := by
  rcases List.mem_append.1 h with h | h
  · obtain ⟨q, hq, hi⟩ := List.mem_flatten.1 h
    obtain ⟨b', hb'⟩ := List.mem_iff_getElem?.1 hq
    rw [List.getElem?_take] at hb'
    split at hb'
    · exact .inl ⟨b', q, ‹_›, hb', hi⟩
    · cases hb'
  · cases hq : Q[b]? with
    | none => rw [hq] at h; simp at h
    | some q =>
      rw [hq] at h
      simp only [Option.getD_some] at h
      obtain ⟨j, hj⟩ := List.mem_iff_getElem?.1 h
      rw [List.getElem?_take] at hj
      split at hj
      · exact .inr ⟨q, j, rfl, ‹_›, hj⟩
      · cases hj

theorem preQ_sub {Q : List (List IncR)} {b t : Nat} {q : List IncR} (h : Q[b]? = some q) : (preQ Q b t).Sublist Q.flatten := by
  have e : Q = Q.take b ++ q :: Q.drop (b + 1) := by
    obtain ⟨hb, hq⟩ := List.getElem?_eq_some_iff.1 h
    rw [← hq, List.getElem_cons_drop, List.take_append_drop]
  have e2 : Q.flatten = (Q.take b).flatten ++ (q ++ (Q.drop (b + 1)).flatten) := by
    conv => lhs; rw [e]
    simp [List.flatten_append]
  rw [e2, preQ, h]
  exact List.Sublist.append (List.Sublist.refl _) ((List.take_sublist _ _).trans (List.sublist_append_left _ _))

/-- What is known of the increments ahead. -/
def GoodP (k n nw : Nat) (F : Nat → Fr) (Q : List (List IncR)) (b t : Nat) : Prop :=
  (∀ b' q', b' < b → Q[b']? = some q' → QueP k n nw F b' q') ∧ (∀ (q : List IncR) (j : Nat) (i : IncR), Q[b]? = some q → j < t → q[j]? = some i → OkB k n nw F b q j i) ∧ ((preQ Q b t).map fun i => i.sq).Nodup
section
variable {k n nw : Nat} {F : Nat → Fr} {Q : List (List IncR)} {b t : Nat} {q : List IncR} {i : IncR}
theorem good_start : GoodP k n nw F Q 0 0 := ⟨fun _ _ h => by omega, fun _ _ _ _ h => by omega, by simp [preQ]⟩
theorem good_next (h : GoodP k n nw F Q b t) (hq : Q[b]? = some q) (hi : q[t]? = some i) (ho : OkB k n nw F b q t i) (hn : i.sq ∉ (preQ Q b t).map fun i => i.sq) : GoodP k n nw F Q b (t + 1) := by
  refine ⟨h.1, fun q' j x hq' hj hx => ?_, ?_⟩
  · rw [hq] at hq'
    injection hq' with hq'
    subst hq'
    rcases (by omega : j < t ∨ j = t) with e | rfl
    · exact h.2.1 q j x hq e hx
    · rw [hi] at hx
      injection hx with hx
      subst hx
      exact ho
  · rw [preQ_next hq hi, List.map_append, List.nodup_append]
    refine ⟨h.2.2, by simp, fun x hx y hy e => ?_⟩
    simp at hy
    subst hy
    subst e
    exact hn hx
theorem good_row (h : GoodP k n nw F Q b q.length) (hq : Q[b]? = some q) : GoodP k n nw F Q (b + 1) 0 := by
  refine ⟨fun b' q' hb hq' => ?_, fun _ _ _ _ h => by omega, ?_⟩
  · rcases (by omega : b' < b ∨ b' = b) with e | rfl
    · exact h.1 b' q' e hq'
    · rw [hq] at hq'
      injection hq' with hq'
      subst hq'
      exact fun j i hi => h.2.1 q j i hq (get_lt hi) hi
  · rw [← preQ_row hq]
    exact h.2.2
theorem good_end (h : GoodP k n nw F Q Q.length 0) (h1 : 1 ≤ Q.length) (h4 : Q.length ≤ 4) : BelP k n nw F Q := ⟨h1, h4, fun b q hq => h.1 b q (get_lt hq) hq⟩
theorem good_mem (h : GoodP k n nw F Q b t) : ∀ i ∈ preQ Q b t, 0 < i.wo ∧ FitI k n nw F i := by
  intro i hi
  rcases preQ_mem hi with ⟨b', q', hb, hq, hm⟩ | ⟨q, j, hq, hj, hi⟩
  · obtain ⟨j, hj⟩ := List.mem_iff_getElem?.1 hm
    have := h.1 b' q' hb hq j i hj
    exact ⟨this.2.1, this.2.2.1⟩
  · have := h.2.1 q j i hq hj hi
    exact ⟨this.2.1, this.2.2.1⟩
theorem good_own (h : GoodP k n nw F Q b t) (hq : Q[b]? = some q) (ht : t ≤ q.length) (hn : n ≤ 64) (htot : Q.flatten.length ≤ 400) : ownS k (preQ Q b t) ≤ 25600 ∧ (preQ Q b t).length ≤ 400 := by
  have h1 := ownS_le _ (good_mem h)
  have h2 := preQ_len hq ht
  have h3 : n * (preQ Q b t).length ≤ 64 * 400 := Nat.mul_le_mul hn (by omega)
  omega
theorem bad_ok (hq : Q[b]? = some q) (hi : q[t]? = some i) (h : ¬ OkB k n nw F b q t i) : ¬ SndP k n nw F Q := fun h2 => h (h2.1.2.2 b q hq t i hi)
theorem bad_dup (hv : FV F n) (hq : Q[b]? = some q) (hi : q[t]? = some i) (h : i.sq ∈ (preQ Q b t).map fun i => i.sq) : ¬ SndP k n nw F Q := fun h2 => by
  have h3 := (preQ_sub (t := t + 1) hq).map fun i : IncR => i.sq
  have h4 := h3.nodup (bel_nodup hv h2.1)
  rw [preQ_next hq hi, List.map_append, List.nodup_append] at h4
  exact h4.2.2 _ h _ (by simp) rfl
end

theorem Blk.next' {w w' : World} {b : Nat} {t : TypeId} {cs : Array Value} (h : Blk w b t cs) (hb : Below w.drew.heap.size w.drew w') : Blk w' b t cs := h.next (show Below w.heap.size w w' from ⟨hb.os, hb.tape, hb.output, hb.size, hb.block⟩)
theorem hM_row {w : World} {B : Nat} {t : TypeId} {v : Value} {n m : Nat} {xs : List Value} (hm : m = n) (h : w.ownsRow B t 1 v n xs) : w.ownsRow B t 1 v m xs := hm ▸ h
/-- The numbers of increments as a row of integers. -/
def seqC (l : List IncR) : List Value := l.map fun i => .int .i64 i.sq
theorem seqC_snoc (l : List IncR) (i : IncR) : seqC (l ++ [i]) = seqC l ++ [.int .i64 i.sq] := by simp [seqC]

set_option maxHeartbeats 8000000 in
theorem sound_any (k : Nat) (A A' : Option Addr) (nw c n c' : Nat) (F : Nat → Fr) (Al : Option Addr) (cl : Nat) (Q : List (List IncR)) (w : World) (hT : Tab w w.heap.size A' n c' F)
    (hQ : QArr w (Lt w.heap.size) Al cl Q) (hn : n ≤ 64) (hv : FV F n) (hk : k ≤ 8) (hw : nw ≤ 16384) (htot : Q.flatten.length ≤ 400) :
    Calls Try.prog 39 #[.agg #[.int .i64 k, .slice A nw c, .slice A' n c'], .slice Al Q.length cl] w (IffOf (SndP k n nw F Q) w) := by
  obtain ⟨i0, hi0, hz0, hz1, hz2⟩ := info_parts int_info
  obtain ⟨U, hU⟩ : ∃ U, U = w.alloc (.cells #[.int .i64 k, .slice A nw c, .slice A' n c'] 25) := ⟨_, rfl⟩
  have BS := Lib.hid (show Blk U w.heap.size 25 #[.int .i64 k, .slice A nw c, .slice A' n c'] by rw [hU]; exact Blk.new _ _ _)
  have HBU : Hid (Below w.heap.size w U) := by rw [hU]; exact (Below.refl _ _).alloc (Nat.le_refl _) _
  have HU := Lib.hid hU
  have HT := Lib.hid (hT.next HBU.out)
  have HQ := Lib.hid (hQ.next HBU.out)
  have hm := hQ.2.1
  have hm' := hQ.1
  simp only [maxLen] at hm
  have HV := Lib.hid hv
  have HTOT := Lib.hid htot
  clear hT hQ hU hv htot
  by_cases h1 : Q.length < 1
  · have h1i : (Q.length : Int) < 1 := by omega
    have HN := Lib.hid (show ¬ SndP k n nw F Q from fun h => by have := h.1.1; omega)
    go_enter Try.func39, Try.ntmps39
    go_wp2
    rw [← HU.out]
    go_ret
    exact ⟨_, rfl, iff_no HN.out, HBU.out⟩
  · have h1i : ¬ (Q.length : Int) < 1 := by omega
    by_cases h4 : 4 < Q.length
    · have h4i : (4 : Int) < Q.length := by omega
      have HN := Lib.hid (show ¬ SndP k n nw F Q from fun h => by have := h.1.2.1; omega)
      go_enter Try.func39, Try.ntmps39
      go_wp2
      rw [← HU.out]
      go_ret
      exact ⟨_, rfl, iff_no HN.out, HBU.out⟩
    · have h4i : ¬ (4 : Int) < Q.length := by omega
      go_enter Try.func39, Try.ntmps39
      go_wp2_with fail
      rw [← HU.out]
      go_loopw [5, 6, 26] (fun ow sn i wr => ∃ b : Nat, b ≤ Q.length ∧ i = .int .i64 b ∧ ow = .int .i64 (ownS k (preQ Q b 0) : Nat) ∧ wr.ownsRow U.heap.size 3 1 sn (preQ Q b 0).length (seqC (preQ Q b 0)) ∧ GoodP k n nw F Q b 0 ∧ Below U.heap.size U wr) (fun _ _ i _ => Q.length - (intOf i).toNat)
      case atStart => exact ⟨0, by omega, rfl, by simp [preQ, ownS], by simpa [preQ, seqC] using World.ownsRow_nil _ _ _ _, good_start, Below.refl _ _⟩
      case round =>
        obtain ⟨b, hb, rfl, rfl, hown, hg, hbl⟩ := hrel
        have HO := Lib.hid hown
        have HG := Lib.hid hg
        have HB := Lib.hid hbl
        clear hown hg hbl
        by_cases hlt : b < Q.length
        · have hlt2 : 0 ≤ (b : Int) ∧ (b : Int) < Q.length := by omega
          obtain ⟨q, hq⟩ := nth_of hlt
          obtain ⟨bq, o, Ai, ci, rfl, hP, _, c0', hL⟩ := HQ.out.at_ hq
          have c0 := (HB.out.cell (p := ⟨bq, o + b, none⟩) hP).trans c0'
          have hbz : bq < wr.heap.size := cell_lt c0
          have HQE := Lib.hid hq
          have HL := Lib.hid hL
          have hm1 := hL.2.1
          have hm1' := hL.1
          simp only [maxLen] at hm1
          obtain ⟨ow0, how0⟩ : ∃ x, x = ownS k (preQ Q b 0) := ⟨_, rfl⟩
          have HOW0 := Lib.hid how0
          rw [← how0]
          clear hq hP hL how0 c0'
          go_wp2_with fail
          go_loopw [5, 6, 33] (fun ow sn i wr' => ∃ t : Nat, t ≤ q.length ∧ i = .int .i64 t ∧ ow = .int .i64 (ownS k (preQ Q b t) : Nat) ∧ wr'.ownsRow U.heap.size 3 1 sn (preQ Q b t).length (seqC (preQ Q b t)) ∧ GoodP k n nw F Q b t ∧ Below U.heap.size U wr') (fun _ _ i _ => q.length - (intOf i).toNat)
          case atStart => exact ⟨0, by omega, rfl, by rw [HOW0.out], HO.out, HG.out, HB.out⟩
          case round =>
            obtain ⟨t, ht, rfl, rfl, hown, hg, hbl⟩ := hrel
            have HO2 := Lib.hid hown
            have HG2 := Lib.hid hg
            have HB2 := Lib.hid hbl
            obtain ⟨l1, l2⟩ := good_own hg HQE.out ht hn HTOT.out
            clear hown hg hbl c0
            by_cases htl : t < q.length
            · have htl2 : 0 ≤ (t : Int) ∧ (t : Int) < q.length := by omega
              obtain ⟨W0, hW0⟩ : ∃ W0, W0 = wr := ⟨_, rfl⟩
              subst hW0
              obtain ⟨i, hi⟩ := nth_of htl
              obtain ⟨bi, oi, rfl, hP, hbz', d0, d1, d2, d3, d4⟩ := (HL.out.next HB2.out).at_ hi
              have HI := Lib.hid hi
              obtain ⟨x0, hx0⟩ : ∃ x, x = i.sq := ⟨_, rfl⟩
              obtain ⟨x1, hx1⟩ : ∃ x, x = i.bt := ⟨_, rfl⟩
              obtain ⟨x2, hx2⟩ : ∃ x, x = i.fi := ⟨_, rfl⟩
              obtain ⟨x3, hx3⟩ : ∃ x, x = i.la := ⟨_, rfl⟩
              obtain ⟨x4, hx4⟩ : ∃ x, x = i.wo := ⟨_, rfl⟩
              rw [← hx0] at d0
              rw [← hx1] at d1
              rw [← hx2] at d2
              rw [← hx3] at d3
              rw [← hx4] at d4
              have HFI := Lib.hid (show FitI k n nw F i ↔ FitsQ k n nw F x0 x1 x2 x3 x4 by unfold FitI; rw [hx0, hx1, hx2, hx3, hx4])
              have HX0 := Lib.hid hx0
              have HX1 := Lib.hid hx1
              have HX4 := Lib.hid hx4
              obtain ⟨As, cs, rfl, _⟩ := row_slice HO2.out
              obtain ⟨m, hm0⟩ : ∃ m, m = (preQ Q b t).length := ⟨_, rfl⟩
              rw [← hm0] at l2 ⊢
              have HM := Lib.hid hm0
              have HM1 := Lib.hid (show m + 1 ≤ maxLen by simp only [maxLen]; omega)
              have HM2 := Lib.hid (show (m + 1) * 8 ≤ 140737488355328 by omega)
              have HOM : Hid (W0.ownsRow U.heap.size 3 1 (.slice As m cs) m (seqC (preQ Q b t))) := Lib.hid (by have h := HO2.out; rw [← hm0] at h; exact h)
              obtain ⟨V, hV⟩ : ∃ V, V = W0.alloc (.cells #[.int .i64 x0, .int .i64 x1, .int .i64 x2, .int .i64 x3, .int .i64 x4] 41) := ⟨_, rfl⟩
              have HBV : Hid (Below W0.heap.size W0 V) := by rw [hV]; exact (Below.refl _ _).alloc (Nat.le_refl _) _
              have HZV : Hid (W0.heap.size < V.heap.size) := Lib.hid (by rw [hV]; simp)
              have BIV := Lib.hid (show Blk V W0.heap.size 41 #[.int .i64 x0, .int .i64 x1, .int .i64 x2, .int .i64 x3, .int .i64 x4] by rw [hV]; exact Blk.new _ _ _)
              have HVV := Lib.hid hV
              have HBU2 : Hid (Below U.heap.size U V) := below_next HB2.out (Nat.le_refl _) HBV.out
              have BSV := BS.out.next HBU2.out
              have p0 := BSV.cell 0
              have p1 := BSV.cell 1
              have p2 := BSV.cell 2
              simp at p0 p1 p2
              have zs : w.heap.size < V.heap.size := BSV.lt
              have r0 := BIV.out.cell 0
              have r1 := BIV.out.cell 1
              have r2 := BIV.out.cell 2
              have r3 := BIV.out.cell 3
              have r4 := BIV.out.cell 4
              simp at r0 r1 r2 r3 r4
              have zi := HZV.out
              have HTD : Hid (Tab V.drew V.drew.heap.size A' n c' F) := Lib.hid (show Tab V V.heap.size A' n c' F from HT.out.next HBU2.out)
              have HBAD : Hid (¬ OkB k n nw F b q t i → ¬ SndP k n nw F Q) := Lib.hid (fun h => bad_ok HQE.out hi h)
              clear hi hP hx0 hx1 hx2 hx3 hx4 hm0 hV BSV
              go_wp2_with fail
              rw [← HVV.out]
              clear d1 d2 d3 d4
              by_cases hbt : x1 = b
              · subst hbt
                by_cases hwo : x4 < 1
                · have HWO := Lib.hid hwo
                  clear d0 HTD
                  refine wp_region_held_drew (S := (fun w' => w'.cell? ⟨w.heap.size, 0, none⟩ = some (.int .i64 k) ∧ w'.cell? ⟨w.heap.size, 1, none⟩ = some (.slice A nw c) ∧ w'.cell? ⟨w.heap.size, 2, none⟩ = some (.slice A' n c') ∧ w'.cell? ⟨W0.heap.size, 0, none⟩ = some (.int .i64 x0) ∧ w'.cell? ⟨W0.heap.size, 1, none⟩ = some (.int .i64 (b : Int)) ∧ w'.cell? ⟨W0.heap.size, 2, none⟩ = some (.int .i64 x2) ∧ w'.cell? ⟨W0.heap.size, 3, none⟩ = some (.int .i64 x3) ∧ w'.cell? ⟨W0.heap.size, 4, none⟩ = some (.int .i64 x4))) (by kernel_rfl) ?_ (fun hHeld => ?_)
                  · exact ⟨p0, p1, p2, r0, r1, r2, r3, r4⟩
                  (refine wpAnyH_take (i := 0) (v := ?_) rfl (by kernel_rfl) (by kernel_rfl) (by kernel_rfl) (fun _ _ _ h => h) (Or.inl ⟨by rfl, ?_⟩) (by assumption) ?_; rotate_left 1; (focus (intro w' hSw; (try dsimp only at hSw); go_simp; (try with_reducible rfl); done)); try simp only [Act.put, List.setIfInBounds_toArray, List.set_cons_zero, List.set_cons_succ, List.getElem_toArray, List.getElem_cons_zero])
                  (refine wpAnyH_take (i := 1) (v := ?_) rfl (by kernel_rfl) (by kernel_rfl) (by kernel_rfl) (fun _ _ _ h => h) (Or.inl ⟨by rfl, ?_⟩) (by assumption) ?_; rotate_left 1; (focus (intro w' hSw; (try dsimp only at hSw); go_simp; (try with_reducible rfl); done)); try simp only [Act.put, List.setIfInBounds_toArray, List.set_cons_zero, List.set_cons_succ, List.getElem_toArray, List.getElem_cons_zero, List.getElem_cons_succ])
                  (refine wpAnyH_take (i := 2) (v := ?_) rfl (by kernel_rfl) (by kernel_rfl) (by kernel_rfl) (fun _ _ _ h => h) (Or.inl ⟨by rfl, ?_⟩) (by assumption) ?_; rotate_left 1; (focus (intro w' hSw; (try dsimp only at hSw); go_simp; (try with_reducible rfl); done)); try simp only [Act.put, List.setIfInBounds_toArray, List.set_cons_zero, List.set_cons_succ, List.getElem_toArray, List.getElem_cons_zero, List.getElem_cons_succ])
                  (refine wpAnyH_take (i := 3) (v := ?_) rfl (by kernel_rfl) (by kernel_rfl) (by kernel_rfl) (fun _ _ _ h => h) (Or.inl ⟨by rfl, ?_⟩) (by assumption) ?_; rotate_left 1; (focus (intro w' hSw; (try dsimp only at hSw); go_simp; (try with_reducible rfl); done)); try simp only [Act.put, List.setIfInBounds_toArray, List.set_cons_zero, List.set_cons_succ, List.getElem_toArray, List.getElem_cons_zero, List.getElem_cons_succ])
                  (refine wpAnyH_take (i := 4) (v := ?_) rfl (by kernel_rfl) (by kernel_rfl) (by kernel_rfl) (fun _ _ _ h => h) (Or.inl ⟨by rfl, ?_⟩) (by assumption) ?_; rotate_left 1; (focus (intro w' hSw; (try dsimp only at hSw); go_simp; (try with_reducible rfl); done)); try simp only [Act.put, List.setIfInBounds_toArray, List.set_cons_zero, List.set_cons_succ, List.getElem_toArray, List.getElem_cons_zero, List.getElem_cons_succ])
                  (refine wpAnyH_take (i := 5) (v := ?_) rfl (by kernel_rfl) (by kernel_rfl) (by kernel_rfl) (fun _ _ _ h => h) (Or.inl ⟨by rfl, ?_⟩) (by assumption) ?_; rotate_left 1; (focus (intro w' hSw; (try dsimp only at hSw); go_simp; (try with_reducible rfl); done)); try simp only [Act.put, List.setIfInBounds_toArray, List.set_cons_zero, List.set_cons_succ, List.getElem_toArray, List.getElem_cons_zero, List.getElem_cons_succ])
                  (refine wpAnyH_take (i := 6) (v := ?_) rfl (by kernel_rfl) (by kernel_rfl) (by kernel_rfl) (fun _ _ _ h => h) (Or.inl ⟨by rfl, ?_⟩) (by assumption) ?_; rotate_left 1; (focus (intro w' hSw; (try dsimp only at hSw); go_simp; (try with_reducible rfl); done)); try simp only [Act.put, List.setIfInBounds_toArray, List.set_cons_zero, List.set_cons_succ, List.getElem_toArray, List.getElem_cons_zero, List.getElem_cons_succ])
                  (refine wpAnyH_take (i := 7) (v := ?_) rfl (by kernel_rfl) (by kernel_rfl) (by kernel_rfl) (fun _ _ _ h => h) (Or.inl ⟨by rfl, ?_⟩) (by assumption) ?_; rotate_left 1; (focus (intro w' hSw; (try dsimp only at hSw); go_simp; (try with_reducible rfl); done)); try simp only [Act.put, List.setIfInBounds_toArray, List.set_cons_zero, List.set_cons_succ, List.getElem_toArray, List.getElem_cons_zero, List.getElem_cons_succ])
                  (refine wpAnyH_take (i := 8) (v := ?_) rfl (by kernel_rfl) (by kernel_rfl) (by kernel_rfl) (fun _ _ _ h => h) (Or.inl ⟨by rfl, ?_⟩) (by assumption) ?_; rotate_left 1; (focus (intro w' hSw; (try dsimp only at hSw); go_simp; (try with_reducible rfl); done)); try simp only [Act.put, List.setIfInBounds_toArray, List.set_cons_zero, List.set_cons_succ, List.getElem_toArray, List.getElem_cons_zero, List.getElem_cons_succ])
                  (refine wpAnyH_take (i := 9) (v := ?_) rfl (by kernel_rfl) (by kernel_rfl) (by kernel_rfl) (fun _ _ _ h => h) (Or.inl ⟨by rfl, ?_⟩) (by assumption) ?_; rotate_left 1; (focus (intro w' hSw; (try dsimp only at hSw); go_simp; (try with_reducible rfl); done)); try simp only [Act.put, List.setIfInBounds_toArray, List.set_cons_zero, List.set_cons_succ, List.getElem_toArray, List.getElem_cons_zero, List.getElem_cons_succ])
                  (refine wpAnyH_take (i := 10) (v := undef) rfl (by kernel_rfl) (by kernel_rfl) (by kernel_rfl) (fun _ _ _ h => h) (Or.inr ⟨by rfl, rfl⟩) (by assumption) ?_; try simp only [Act.put, List.setIfInBounds_toArray, List.set_cons_zero, List.set_cons_succ, List.getElem_toArray, List.getElem_cons_zero, List.getElem_cons_succ])
                  (refine wpAnyH_take (i := 11) (v := undef) rfl (by kernel_rfl) (by kernel_rfl) (by kernel_rfl) (fun _ _ _ h => h) (Or.inr ⟨by rfl, rfl⟩) (by assumption) ?_; try simp only [Act.put, List.setIfInBounds_toArray, List.set_cons_zero, List.set_cons_succ, List.getElem_toArray, List.getElem_cons_zero, List.getElem_cons_succ])
                  (refine wpAnyH_take (i := 12) (v := undef) rfl (by kernel_rfl) (by kernel_rfl) (by kernel_rfl) (fun _ _ _ h => h) (Or.inr ⟨by rfl, rfl⟩) (by assumption) ?_; try simp only [Act.put, List.setIfInBounds_toArray, List.set_cons_zero, List.set_cons_succ, List.getElem_toArray, List.getElem_cons_zero, List.getElem_cons_succ])
                  (refine wpAnyH_take (i := 13) (v := undef) rfl (by kernel_rfl) (by kernel_rfl) (by kernel_rfl) (fun _ _ _ h => h) (Or.inr ⟨by rfl, rfl⟩) (by assumption) ?_; try simp only [Act.put, List.setIfInBounds_toArray, List.set_cons_zero, List.set_cons_succ, List.getElem_toArray, List.getElem_cons_zero, List.getElem_cons_succ])
                  (refine wpAnyH_take (i := 14) (v := ?_) rfl (by kernel_rfl) (by kernel_rfl) (by kernel_rfl) (fun _ _ _ h => h) (Or.inl ⟨by rfl, ?_⟩) (by assumption) ?_; rotate_left 1; (focus (intro w' hSw; (try dsimp only at hSw); go_simp; (try with_reducible rfl); done)); try simp only [Act.put, List.setIfInBounds_toArray, List.set_cons_zero, List.set_cons_succ, List.getElem_toArray, List.getElem_cons_zero, List.getElem_cons_succ])
                  (refine wpAnyH_take (i := 15) (v := ?_) rfl (by kernel_rfl) (by kernel_rfl) (by kernel_rfl) (fun _ _ _ h => h) (Or.inl ⟨by rfl, ?_⟩) (by assumption) ?_; rotate_left 1; (focus (intro w' hSw; (try dsimp only at hSw); go_simp; (try with_reducible rfl); done)); try simp only [Act.put, List.setIfInBounds_toArray, List.set_cons_zero, List.set_cons_succ, List.getElem_toArray, List.getElem_cons_zero, List.getElem_cons_succ])
                  (refine wpAnyH_take (i := 16) (v := undef) rfl (by kernel_rfl) (by kernel_rfl) (by kernel_rfl) (fun _ _ _ h => h) (Or.inr ⟨by rfl, rfl⟩) (by assumption) ?_; try simp only [Act.put, List.setIfInBounds_toArray, List.set_cons_zero, List.set_cons_succ, List.getElem_toArray, List.getElem_cons_zero, List.getElem_cons_succ])
                  (refine wpAnyH_take (i := 17) (v := undef) rfl (by kernel_rfl) (by kernel_rfl) (by kernel_rfl) (fun _ _ _ h => h) (Or.inr ⟨by rfl, rfl⟩) (by assumption) ?_; try simp only [Act.put, List.setIfInBounds_toArray, List.set_cons_zero, List.set_cons_succ, List.getElem_toArray, List.getElem_cons_zero, List.getElem_cons_succ])
                  (refine wpAnyH_take (i := 18) (v := undef) rfl (by kernel_rfl) (by kernel_rfl) (by kernel_rfl) (fun _ _ _ h => h) (Or.inr ⟨by rfl, rfl⟩) (by assumption) ?_; try simp only [Act.put, List.setIfInBounds_toArray, List.set_cons_zero, List.set_cons_succ, List.getElem_toArray, List.getElem_cons_zero, List.getElem_cons_succ])
                  (refine wpAnyH_take (i := 19) (v := undef) rfl (by kernel_rfl) (by kernel_rfl) (by kernel_rfl) (fun _ _ _ h => h) (Or.inr ⟨by rfl, rfl⟩) (by assumption) ?_; try simp only [Act.put, List.setIfInBounds_toArray, List.set_cons_zero, List.set_cons_succ, List.getElem_toArray, List.getElem_cons_zero, List.getElem_cons_succ])
                  (refine wpAnyH_take (i := 20) (v := undef) rfl (by kernel_rfl) (by kernel_rfl) (by kernel_rfl) (fun _ _ _ h => h) (Or.inr ⟨by rfl, rfl⟩) (by assumption) ?_; try simp only [Act.put, List.setIfInBounds_toArray, List.set_cons_zero, List.set_cons_succ, List.getElem_toArray, List.getElem_cons_zero, List.getElem_cons_succ])
                  (refine wpAnyH_take (i := 21) (v := undef) rfl (by kernel_rfl) (by kernel_rfl) (by kernel_rfl) (fun _ _ _ h => h) (Or.inr ⟨by rfl, rfl⟩) (by assumption) ?_; try simp only [Act.put, List.setIfInBounds_toArray, List.set_cons_zero, List.set_cons_succ, List.getElem_toArray, List.getElem_cons_zero, List.getElem_cons_succ])
                  (refine wpAnyH_take (i := 22) (v := undef) rfl (by kernel_rfl) (by kernel_rfl) (by kernel_rfl) (fun _ _ _ h => h) (Or.inr ⟨by rfl, rfl⟩) (by assumption) ?_; try simp only [Act.put, List.setIfInBounds_toArray, List.set_cons_zero, List.set_cons_succ, List.getElem_toArray, List.getElem_cons_zero, List.getElem_cons_succ])
                  (refine wpAnyH_take (i := 23) (v := undef) rfl (by kernel_rfl) (by kernel_rfl) (by kernel_rfl) (fun _ _ _ h => h) (Or.inr ⟨by rfl, rfl⟩) (by assumption) ?_; try simp only [Act.put, List.setIfInBounds_toArray, List.set_cons_zero, List.set_cons_succ, List.getElem_toArray, List.getElem_cons_zero, List.getElem_cons_succ])
                  (refine wpAnyH_take (i := 24) (v := undef) rfl (by kernel_rfl) (by kernel_rfl) (by kernel_rfl) (fun _ _ _ h => h) (Or.inr ⟨by rfl, rfl⟩) (by assumption) ?_; try simp only [Act.put, List.setIfInBounds_toArray, List.set_cons_zero, List.set_cons_succ, List.getElem_toArray, List.getElem_cons_zero, List.getElem_cons_succ])
                  (refine wpAnyH_take (i := 25) (v := undef) rfl (by kernel_rfl) (by kernel_rfl) (by kernel_rfl) (fun _ _ _ h => h) (Or.inr ⟨by rfl, rfl⟩) (by assumption) ?_; try simp only [Act.put, List.setIfInBounds_toArray, List.set_cons_zero, List.set_cons_succ, List.getElem_toArray, List.getElem_cons_zero, List.getElem_cons_succ])
                  (refine wpAnyH_take (i := 26) (v := undef) rfl (by kernel_rfl) (by kernel_rfl) (by kernel_rfl) (fun _ _ _ h => h) (Or.inr ⟨by rfl, rfl⟩) (by assumption) ?_; try simp only [Act.put, List.setIfInBounds_toArray, List.set_cons_zero, List.set_cons_succ, List.getElem_toArray, List.getElem_cons_zero, List.getElem_cons_succ])
                  (refine wpAnyH_take (i := 27) (v := undef) rfl (by kernel_rfl) (by kernel_rfl) (by kernel_rfl) (fun _ _ _ h => h) (Or.inr ⟨by rfl, rfl⟩) (by assumption) ?_; try simp only [Act.put, List.setIfInBounds_toArray, List.set_cons_zero, List.set_cons_succ, List.getElem_toArray, List.getElem_cons_zero, List.getElem_cons_succ])
                  (refine wpAnyH_take (i := 28) (v := undef) rfl (by kernel_rfl) (by kernel_rfl) (by kernel_rfl) (fun _ _ _ h => h) (Or.inr ⟨by rfl, rfl⟩) (by assumption) ?_; try simp only [Act.put, List.setIfInBounds_toArray, List.set_cons_zero, List.set_cons_succ, List.getElem_toArray, List.getElem_cons_zero, List.getElem_cons_succ])
                  (refine wpAnyH_take (i := 29) (v := ?_) rfl (by kernel_rfl) (by kernel_rfl) (by kernel_rfl) (fun _ _ _ h => h) (Or.inl ⟨by rfl, ?_⟩) (by assumption) ?_; rotate_left 1; (focus (intro w' hSw; (try dsimp only at hSw); go_simp; (try with_reducible rfl); done)); try simp only [Act.put, List.setIfInBounds_toArray, List.set_cons_zero, List.set_cons_succ, List.getElem_toArray, List.getElem_cons_zero, List.getElem_cons_succ])
                  refine wpAnyH_done (by kernel_rfl) ?_ _
                  go_wp2
                  go_ret
                  exact ⟨_, rfl, iff_no (HBAD.out fun h => by have h2 := h.2.1; rw [← HX4.out] at h2; have := HWO.out; omega), below_next HBU.out (Nat.le_refl _) HBU2.out.drew⟩

                · by_cases hf : FitsQ k n nw F x0 b x2 x3 x4
                  · have HF := Lib.hid hf
                    have HX4P : Hid (0 < x4 ∧ x4 ≤ 16384) := Lib.hid (by
                      obtain ⟨⟨_, _, _, _, W, h1, h2, _⟩, _⟩ := hf
                      omega)
                    clear hf
                    rcases t with _ | u
                    · have HOKI : Hid (OkB k n nw F b q 0 i) := Lib.hid ⟨HX1.out.symm, by rw [← HX4.out]; omega, HFI.out.2 HF.out, fun _ h => by omega⟩
                      have hg : decide ((0 : Int) < 0) = false := by decide
                      clear d0
                      refine wp_region_held_drew (S := (fun w' => w'.cell? ⟨w.heap.size, 0, none⟩ = some (.int .i64 k) ∧ w'.cell? ⟨w.heap.size, 1, none⟩ = some (.slice A nw c) ∧ w'.cell? ⟨w.heap.size, 2, none⟩ = some (.slice A' n c') ∧ w'.cell? ⟨W0.heap.size, 0, none⟩ = some (.int .i64 x0) ∧ w'.cell? ⟨W0.heap.size, 1, none⟩ = some (.int .i64 (b : Int)) ∧ w'.cell? ⟨W0.heap.size, 2, none⟩ = some (.int .i64 x2) ∧ w'.cell? ⟨W0.heap.size, 3, none⟩ = some (.int .i64 x3) ∧ w'.cell? ⟨W0.heap.size, 4, none⟩ = some (.int .i64 x4))) (by kernel_rfl) ?_ (fun hHeld => ?_)
                      · exact ⟨p0, p1, p2, r0, r1, r2, r3, r4⟩
                      (refine wpAnyH_take (i := 0) (v := ?_) rfl (by kernel_rfl) (by kernel_rfl) (by kernel_rfl) (fun _ _ _ h => h) (Or.inl ⟨by rfl, ?_⟩) (by assumption) ?_; rotate_left 1; (focus (intro w' hSw; (try dsimp only at hSw); go_simp; (try with_reducible rfl); done)); try simp only [Act.put, List.setIfInBounds_toArray, List.set_cons_zero, List.set_cons_succ, List.getElem_toArray, List.getElem_cons_zero])
                      (refine wpAnyH_take (i := 1) (v := ?_) rfl (by kernel_rfl) (by kernel_rfl) (by kernel_rfl) (fun _ _ _ h => h) (Or.inl ⟨by rfl, ?_⟩) (by assumption) ?_; rotate_left 1; (focus (intro w' hSw; (try dsimp only at hSw); go_simp; (try with_reducible rfl); done)); try simp only [Act.put, List.setIfInBounds_toArray, List.set_cons_zero, List.set_cons_succ, List.getElem_toArray, List.getElem_cons_zero, List.getElem_cons_succ])
                      (refine wpAnyH_take (i := 2) (v := ?_) rfl (by kernel_rfl) (by kernel_rfl) (by kernel_rfl) (fun _ _ _ h => h) (Or.inl ⟨by rfl, ?_⟩) (by assumption) ?_; rotate_left 1; (focus (intro w' hSw; (try dsimp only at hSw); go_simp; (try with_reducible rfl); done)); try simp only [Act.put, List.setIfInBounds_toArray, List.set_cons_zero, List.set_cons_succ, List.getElem_toArray, List.getElem_cons_zero, List.getElem_cons_succ])
                      (refine wpAnyH_take (i := 3) (v := ?_) rfl (by kernel_rfl) (by kernel_rfl) (by kernel_rfl) (fun _ _ _ h => h) (Or.inl ⟨by rfl, ?_⟩) (by assumption) ?_; rotate_left 1; (focus (intro w' hSw; (try dsimp only at hSw); go_simp; (try with_reducible rfl); done)); try simp only [Act.put, List.setIfInBounds_toArray, List.set_cons_zero, List.set_cons_succ, List.getElem_toArray, List.getElem_cons_zero, List.getElem_cons_succ])
                      (refine wpAnyH_take (i := 4) (v := ?_) rfl (by kernel_rfl) (by kernel_rfl) (by kernel_rfl) (fun _ _ _ h => h) (Or.inl ⟨by rfl, ?_⟩) (by assumption) ?_; rotate_left 1; (focus (intro w' hSw; (try dsimp only at hSw); go_simp; (try with_reducible rfl); done)); try simp only [Act.put, List.setIfInBounds_toArray, List.set_cons_zero, List.set_cons_succ, List.getElem_toArray, List.getElem_cons_zero, List.getElem_cons_succ])
                      (refine wpAnyH_take (i := 5) (v := ?_) rfl (by kernel_rfl) (by kernel_rfl) (by kernel_rfl) (fun _ _ _ h => h) (Or.inl ⟨by rfl, ?_⟩) (by assumption) ?_; rotate_left 1; (focus (intro w' hSw; (try dsimp only at hSw); go_simp; (try with_reducible rfl); done)); try simp only [Act.put, List.setIfInBounds_toArray, List.set_cons_zero, List.set_cons_succ, List.getElem_toArray, List.getElem_cons_zero, List.getElem_cons_succ])
                      (refine wpAnyH_take (i := 6) (v := ?_) rfl (by kernel_rfl) (by kernel_rfl) (by kernel_rfl) (fun _ _ _ h => h) (Or.inl ⟨by rfl, ?_⟩) (by assumption) ?_; rotate_left 1; (focus (intro w' hSw; (try dsimp only at hSw); go_simp; (try with_reducible rfl); done)); try simp only [Act.put, List.setIfInBounds_toArray, List.set_cons_zero, List.set_cons_succ, List.getElem_toArray, List.getElem_cons_zero, List.getElem_cons_succ])
                      (refine wpAnyH_take (i := 7) (v := ?_) rfl (by kernel_rfl) (by kernel_rfl) (by kernel_rfl) (fun _ _ _ h => h) (Or.inl ⟨by rfl, ?_⟩) (by assumption) ?_; rotate_left 1; (focus (intro w' hSw; (try dsimp only at hSw); go_simp; (try with_reducible rfl); done)); try simp only [Act.put, List.setIfInBounds_toArray, List.set_cons_zero, List.set_cons_succ, List.getElem_toArray, List.getElem_cons_zero, List.getElem_cons_succ])
                      (refine wpAnyH_take (i := 8) (v := ?_) rfl (by kernel_rfl) (by kernel_rfl) (by kernel_rfl) (fun _ _ _ h => h) (Or.inl ⟨by rfl, ?_⟩) (by assumption) ?_; rotate_left 1; (focus (intro w' hSw; (try dsimp only at hSw); go_simp; (try with_reducible rfl); done)); try simp only [Act.put, List.setIfInBounds_toArray, List.set_cons_zero, List.set_cons_succ, List.getElem_toArray, List.getElem_cons_zero, List.getElem_cons_succ])
                      (refine wpAnyH_take (i := 9) (v := ?_) rfl (by kernel_rfl) (by kernel_rfl) (by kernel_rfl) (fun _ _ _ h => h) (Or.inl ⟨by rfl, ?_⟩) (by assumption) ?_; rotate_left 1; (focus (intro w' hSw; (try dsimp only at hSw); go_simp; (try with_reducible rfl); done)); try simp only [Act.put, List.setIfInBounds_toArray, List.set_cons_zero, List.set_cons_succ, List.getElem_toArray, List.getElem_cons_zero, List.getElem_cons_succ])
                      (refine wpAnyH_take (i := 10) (v := ?_) rfl (by kernel_rfl) (by kernel_rfl) (by kernel_rfl) (fun _ _ _ h => h) (Or.inl ⟨by rfl, ?_⟩) (by assumption) ?_; rotate_left 1; (focus (intro w' hSw; (try dsimp only at hSw); go_simp; (try with_reducible rfl); done)); try simp only [Act.put, List.setIfInBounds_toArray, List.set_cons_zero, List.set_cons_succ, List.getElem_toArray, List.getElem_cons_zero, List.getElem_cons_succ])
                      (refine wpAnyH_take (i := 11) (v := ?_) rfl (by kernel_rfl) (by kernel_rfl) (by kernel_rfl) (fun _ _ _ h => h) (Or.inl ⟨by rfl, ?_⟩) (by assumption) ?_; rotate_left 1; (focus (intro w' hSw; (try dsimp only at hSw); go_simp; (try with_reducible rfl); done)); try simp only [Act.put, List.setIfInBounds_toArray, List.set_cons_zero, List.set_cons_succ, List.getElem_toArray, List.getElem_cons_zero, List.getElem_cons_succ])
                      refine wpAnyH_ready (rs := [12]) (by kernel_rfl) (by simp) ?_
                      refine AllReadyH.cons rfl (fun K hK => ?_) AllReadyH.nil
                      go_simp
                      go_at_call 61
                      refine (fitsX_any k A A' nw c n c' F x0 b x2 x3 x4 _ HTD.out hn HV.out hk hw).mono ?_
                      rintro e w1 ⟨r, rfl, hr, hb1⟩
                      have hrt : r = true := hr.2 HF.out
                      subst hrt
                      clear hr
                      go_wp2_with fail
                      refine hK.out _ _ ⟨(hb1.cell (p := ⟨_, 0, none⟩) zs).trans p0, (hb1.cell (p := ⟨_, 1, none⟩) zs).trans p1, (hb1.cell (p := ⟨_, 2, none⟩) zs).trans p2, (hb1.cell (p := ⟨_, 0, none⟩) zi).trans r0, (hb1.cell (p := ⟨_, 1, none⟩) zi).trans r1, (hb1.cell (p := ⟨_, 2, none⟩) zi).trans r2, (hb1.cell (p := ⟨_, 3, none⟩) zi).trans r3, (hb1.cell (p := ⟨_, 4, none⟩) zi).trans r4⟩ (fun hHeld2 => ?_)
                      clear hK K hHeld
                      try simp only [Act.put, List.setIfInBounds_toArray, List.set_cons_zero, List.set_cons_succ, List.getElem_toArray, List.getElem_cons_zero, List.getElem_cons_succ]
                      (refine wpAnyH_take (i := 13) (v := ?_) rfl (by kernel_rfl) (by kernel_rfl) (by kernel_rfl) (fun _ _ _ h => h) (Or.inl ⟨by rfl, ?_⟩) (by assumption) ?_; rotate_left 1; (focus (intro w' hSw; (try dsimp only at hSw); go_simp; (try with_reducible rfl); done)); try simp only [Act.put, List.setIfInBounds_toArray, List.set_cons_zero, List.set_cons_succ, List.getElem_toArray, List.getElem_cons_zero, List.getElem_cons_succ])
                      (refine wpAnyH_take (i := 14) (v := ?_) rfl (by kernel_rfl) (by kernel_rfl) (by kernel_rfl) (fun _ _ _ h => h) (Or.inl ⟨by rfl, ?_⟩) (by assumption) ?_; rotate_left 1; (focus (intro w' hSw; (try dsimp only at hSw); go_simp; (try with_reducible rfl); done)); try simp only [Act.put, List.setIfInBounds_toArray, List.set_cons_zero, List.set_cons_succ, List.getElem_toArray, List.getElem_cons_zero, List.getElem_cons_succ])
                      (refine wpAnyH_take (i := 15) (v := ?_) rfl (by kernel_rfl) (by kernel_rfl) (by kernel_rfl) (fun _ _ _ h => h) (Or.inl ⟨by rfl, ?_⟩) (by assumption) ?_; rotate_left 1; (focus (intro w' hSw; (try dsimp only at hSw); go_simp; (try with_reducible rfl); done)); try simp only [Act.put, List.setIfInBounds_toArray, List.set_cons_zero, List.set_cons_succ, List.getElem_toArray, List.getElem_cons_zero, List.getElem_cons_succ])
                      (refine wpAnyH_take (i := 16) (v := ?_) rfl (by kernel_rfl) (by kernel_rfl) (by kernel_rfl) (fun _ _ _ h => h) (Or.inl ⟨by rfl, ?_⟩) (by assumption) ?_; rotate_left 1; (focus (intro w' hSw; (try dsimp only at hSw); go_simp; (try with_reducible rfl); done)); try simp only [Act.put, List.setIfInBounds_toArray, List.set_cons_zero, List.set_cons_succ, List.getElem_toArray, List.getElem_cons_zero, List.getElem_cons_succ])
                      (refine wpAnyH_take (i := 17) (v := ?_) rfl (by kernel_rfl) (by kernel_rfl) (by kernel_rfl) (fun _ _ _ h => h) (Or.inl ⟨by rfl, ?_⟩) (by assumption) ?_; rotate_left 1; (focus (intro w' hSw; (try dsimp only at hSw); go_simp; (try with_reducible rfl); done)); try simp only [Act.put, List.setIfInBounds_toArray, List.set_cons_zero, List.set_cons_succ, List.getElem_toArray, List.getElem_cons_zero, List.getElem_cons_succ])
                      (refine wpAnyH_take (i := 18) (v := ?_) rfl (by kernel_rfl) (by kernel_rfl) (by kernel_rfl) (fun _ _ _ h => h) (Or.inl ⟨by rfl, ?_⟩) (by assumption) ?_; rotate_left 1; (focus (intro w' hSw; (try dsimp only at hSw); go_simp; (try with_reducible rfl); done)); try simp only [Act.put, List.setIfInBounds_toArray, List.set_cons_zero, List.set_cons_succ, List.getElem_toArray, List.getElem_cons_zero, List.getElem_cons_succ])
                      (refine wpAnyH_take (i := 19) (v := undef) rfl (by kernel_rfl) (by kernel_rfl) (by kernel_rfl) (fun _ _ _ h => h) (Or.inr ⟨by rfl, rfl⟩) (by assumption) ?_; try simp only [Act.put, List.setIfInBounds_toArray, List.set_cons_zero, List.set_cons_succ, List.getElem_toArray, List.getElem_cons_zero, List.getElem_cons_succ])
                      (refine wpAnyH_take (i := 20) (v := undef) rfl (by kernel_rfl) (by kernel_rfl) (by kernel_rfl) (fun _ _ _ h => h) (Or.inr ⟨by rfl, rfl⟩) (by assumption) ?_; try simp only [Act.put, List.setIfInBounds_toArray, List.set_cons_zero, List.set_cons_succ, List.getElem_toArray, List.getElem_cons_zero, List.getElem_cons_succ])
                      (refine wpAnyH_take (i := 21) (v := undef) rfl (by kernel_rfl) (by kernel_rfl) (by kernel_rfl) (fun _ _ _ h => h) (Or.inr ⟨by rfl, rfl⟩) (by assumption) ?_; try simp only [Act.put, List.setIfInBounds_toArray, List.set_cons_zero, List.set_cons_succ, List.getElem_toArray, List.getElem_cons_zero, List.getElem_cons_succ])
                      (refine wpAnyH_take (i := 22) (v := undef) rfl (by kernel_rfl) (by kernel_rfl) (by kernel_rfl) (fun _ _ _ h => h) (Or.inr ⟨by rfl, rfl⟩) (by assumption) ?_; try simp only [Act.put, List.setIfInBounds_toArray, List.set_cons_zero, List.set_cons_succ, List.getElem_toArray, List.getElem_cons_zero, List.getElem_cons_succ])
                      (refine wpAnyH_take (i := 23) (v := undef) rfl (by kernel_rfl) (by kernel_rfl) (by kernel_rfl) (fun _ _ _ h => h) (Or.inr ⟨by rfl, rfl⟩) (by assumption) ?_; try simp only [Act.put, List.setIfInBounds_toArray, List.set_cons_zero, List.set_cons_succ, List.getElem_toArray, List.getElem_cons_zero, List.getElem_cons_succ])
                      (refine wpAnyH_take (i := 24) (v := undef) rfl (by kernel_rfl) (by kernel_rfl) (by kernel_rfl) (fun _ _ _ h => h) (Or.inr ⟨by rfl, rfl⟩) (by assumption) ?_; try simp only [Act.put, List.setIfInBounds_toArray, List.set_cons_zero, List.set_cons_succ, List.getElem_toArray, List.getElem_cons_zero, List.getElem_cons_succ])
                      (refine wpAnyH_take (i := 25) (v := undef) rfl (by kernel_rfl) (by kernel_rfl) (by kernel_rfl) (fun _ _ _ h => h) (Or.inr ⟨by rfl, rfl⟩) (by assumption) ?_; try simp only [Act.put, List.setIfInBounds_toArray, List.set_cons_zero, List.set_cons_succ, List.getElem_toArray, List.getElem_cons_zero, List.getElem_cons_succ])
                      (refine wpAnyH_take (i := 26) (v := undef) rfl (by kernel_rfl) (by kernel_rfl) (by kernel_rfl) (fun _ _ _ h => h) (Or.inr ⟨by rfl, rfl⟩) (by assumption) ?_; try simp only [Act.put, List.setIfInBounds_toArray, List.set_cons_zero, List.set_cons_succ, List.getElem_toArray, List.getElem_cons_zero, List.getElem_cons_succ])
                      (refine wpAnyH_take (i := 27) (v := undef) rfl (by kernel_rfl) (by kernel_rfl) (by kernel_rfl) (fun _ _ _ h => h) (Or.inr ⟨by rfl, rfl⟩) (by assumption) ?_; try simp only [Act.put, List.setIfInBounds_toArray, List.set_cons_zero, List.set_cons_succ, List.getElem_toArray, List.getElem_cons_zero, List.getElem_cons_succ])
                      (refine wpAnyH_take (i := 28) (v := ?_) rfl (by kernel_rfl) (by kernel_rfl) (by kernel_rfl) (fun _ _ _ h => h) (Or.inl ⟨by rfl, ?_⟩) (by assumption) ?_; rotate_left 1; (focus (intro w' hSw; (try dsimp only at hSw); go_simp; (try with_reducible rfl); done)); try simp only [Act.put, List.setIfInBounds_toArray, List.set_cons_zero, List.set_cons_succ, List.getElem_toArray, List.getElem_cons_zero, List.getElem_cons_succ])
                      (refine wpAnyH_take (i := 29) (v := ?_) rfl (by kernel_rfl) (by kernel_rfl) (by kernel_rfl) (fun _ _ _ h => h) (Or.inl ⟨by rfl, ?_⟩) (by assumption) ?_; rotate_left 1; (focus (intro w' hSw; (try dsimp only at hSw); go_simp; (try with_reducible rfl); done)); try simp only [Act.put, List.setIfInBounds_toArray, List.set_cons_zero, List.set_cons_succ, List.getElem_toArray, List.getElem_cons_zero, List.getElem_cons_succ])
                      refine wpAnyH_done (by kernel_rfl) ?_ _
                      have HB3 : Hid (Below W0.heap.size W0 w1) := below_next HBV.out.drew (Nat.le_refl _) hb1
                      have HO3 := Lib.hid (ownsRow_keep HOM.out fun g _ _ hl => HB3.out.block g hl)
                      have BI3 := Lib.hid (BIV.out.next' hb1)
                      have HB4 : Hid (Below U.heap.size U w1) := below_next HB2.out (Nat.le_refl _) HB3.out
                      clear hb1 p0 p1 p2 r0 r1 r2 r3 r4 HTD
                      go_wp2_with fail
                      go_loopw [70] (fun v W0' => ∃ v' : Nat, v' ≤ m ∧ v = .int .i64 v' ∧ (∀ (j : Nat) (y : IncR), j < v' → (preQ Q b 0)[j]? = some y → y.sq ≠ x0) ∧ w1 = W0') (fun v _ => m - (intOf v).toNat)
                      case atStart => exact ⟨0, by omega, rfl, fun j y hj => by omega, rfl⟩
                      case round =>
                        obtain ⟨v, hv, rfl, hno, hwr⟩ := hrel
                        subst hwr
                        have HNO := Lib.hid hno
                        clear hno
                        have r0 := BI3.out.cell 0
                        have r1 := BI3.out.cell 1
                        have r2 := BI3.out.cell 2
                        have r3 := BI3.out.cell 3
                        have r4 := BI3.out.cell 4
                        simp at r0 r1 r2 r3 r4
                        have zi : W0.heap.size < w1.heap.size := BI3.out.lt
                        by_cases hvm : v < m
                        · have hvm2 : 0 ≤ (v : Int) ∧ (v : Int) < m := by omega
                          obtain ⟨z, hz⟩ := nth_of (show v < (preQ Q b 0).length by have := HM.out; omega)
                          obtain ⟨g, cap, e, _, hg, hc⟩ := row_at HO3.out (show v < m from hvm)
                          injection e with e1 _ e2
                          subst e1
                          have hcz : (seqC (preQ Q b 0))[v]? = some (.int .i64 z.sq) := by simp [seqC, hz]
                          rw [hcz] at hc
                          obtain ⟨z0, hz0⟩ : ∃ y, y = z.sq := ⟨_, rfl⟩
                          rw [← hz0] at hc
                          have HZ0 := Lib.hid hz0
                          have HZ := Lib.hid hz
                          clear hz0 hz hcz e2
                          by_cases hzx : z0 = x0
                          · have HZX := Lib.hid hzx
                            have hzb : (z0 == x0) = true := by simpa using hzx
                            clear hzx
                            go_wp2
                            go_ret
                            exact ⟨_, rfl, iff_no (bad_dup HV.out HQE.out HI.out (by
                              rw [← HX0.out, ← HZX.out, HZ0.out]
                              exact List.mem_map.2 ⟨z, List.mem_iff_getElem?.2 ⟨v, HZ.out⟩, rfl⟩)), below_next HBU.out (Nat.le_refl _) HB4.out⟩
                          · have HZX := Lib.hid hzx
                            have hzb : (z0 == x0) = false := by simpa using hzx
                            clear hzx
                            go_wp2
                            exact ⟨⟨v + 1, by omega, by go_num, fun j y hj hy => by
                              rcases (by omega : j < v ∨ j = v) with h | h
                              · exact HNO.out j y h hy
                              · subst h
                                rw [HZ.out] at hy
                                injection hy with hy
                                subst hy
                                rw [← HZ0.out]
                                exact HZX.out, by trivial⟩, by simp [intOf]; omega⟩
                        · have hvm2 : ¬ (v : Int) < m := by omega
                          have HND : Hid (i.sq ∉ (preQ Q b 0).map fun i => i.sq) := Lib.hid (fun h => by
                            obtain ⟨y, hy, e⟩ := List.mem_map.1 h
                            obtain ⟨j, hj⟩ := List.mem_iff_getElem?.1 hy
                            have := HNO.out j y (by have := get_lt hj; have := HM.out; omega) hj
                            rw [HX0.out] at this
                            exact this e)
                          have HGN := Lib.hid (good_next HG2.out HQE.out HI.out HOKI.out HND.out)
                          have HPN := Lib.hid (preQ_next HQE.out HI.out)
                          have hob := row_block HO3.out
                          have hlt' := World.ownsRow.lt HOM.out
                          have HOA := Lib.hid (HO3.out.alloc (.cells #[.int .i64 x0] 3))
                          go_wp2_with (at_builtin; refine wpList_append_own _ rfl _ _ 27 rfl U.heap.size 3 i0 (.int .i64 0) 1 8 Try.underlying27 hi0 hz0 hz1 hz2 rfl (by decide) _ m (seqC (preQ Q b 0)) rfl HOA.out ⟨w1.heap.size, 0, none⟩ 1 1 [.int .i64 x0] rfl rfl ?c1 (by simp [Value.oneCell']) HM1.out HM2.out ?c5 ?_)
                          try (case c1 => exact one_news (by go_simp))
                          try (case c5 => have := HB4.out.size; simp; omega)
                          intro v' w2 hown' hgrow _
                          have hBA : Hid (Below U.heap.size U w2) := (HB4.out.alloc HB4.out.size _).grown hgrow (by simp; have := HB4.out.size; omega) hob
                          have hne : ∀ j, some (⟨W0.heap.size, j, none⟩ : Addr).block ≠ (Value.slice As m cs).ownBlock := fun j e => by
                            have := (hlt' _ e.symm).2
                            simp at this
                          have g0 := World.grownBy.cell hgrow (Lib.cell?_alloc_some (.cells #[.int .i64 x0] 3) r0) (hne 0)
                          have g1 := World.grownBy.cell hgrow (Lib.cell?_alloc_some (.cells #[.int .i64 x0] 3) r1) (hne 1)
                          have g2 := World.grownBy.cell hgrow (Lib.cell?_alloc_some (.cells #[.int .i64 x0] 3) r2) (hne 2)
                          have g3 := World.grownBy.cell hgrow (Lib.cell?_alloc_some (.cells #[.int .i64 x0] 3) r3) (hne 3)
                          have g4 := World.grownBy.cell hgrow (Lib.cell?_alloc_some (.cells #[.int .i64 x0] 3) r4) (hne 4)
                          have zg : W0.heap.size < w2.heap.size := cell_lt g0
                          have BS2 := BS.out.next hBA.out
                          have p0 := BS2.cell 0
                          have p1 := BS2.cell 1
                          have p2 := BS2.cell 2
                          simp at p0 p1 p2
                          have zs : w.heap.size < w2.heap.size := BS2.lt
                          have HON := Lib.hid hown'
                          obtain ⟨y4, hy4⟩ : ∃ y4 : Nat, x4 = y4 := ⟨x4.toNat, by have := HX4P.out; omega⟩
                          have hcl := ceilZ_nat (W := y4) (k := k) (by have := HX4P.out; omega) (by omega)
                          have hc4 : ceilV y4 k ≤ 64 := by
                            have h1 := HF.out.2 (by have := HX4P.out; omega)
                            have h2 := cntO_le F x0 n
                            rw [hy4, Int.toNat_natCast] at h1
                            omega
                          have HCL := Lib.hid hcl
                          have HY4 := Lib.hid hy4
                          have hwr : IntKind.i64.wrap (((ownS k (preQ Q b 0) : Nat) : Int) + ((ceilV y4 k : Nat) : Int)) = ((ownS k (preQ Q b 0) + ceilV y4 k : Nat) : Int) := by rw [IntWalk.i64_in _ (by omega)]; omega
                          clear hown' hgrow hob hlt' hne BS2 r0 r1 r2 r3 r4 hcl hy4
                          go_wp2_with fail
                          refine (refFrames9_any k x4 (.slice A nw c) (.slice A' n c') x0 b x2 x3 w2).mono ?_
                          rintro e w4 ⟨rfl, hb4⟩
                          rw [HY4.out, HCL.out]
                          have HB6 : Hid (Below U.heap.size U w4) := below_next hBA.out (Nat.le_refl _) hb4
                          have HO6 := Lib.hid (ownsRow_keep HON.out fun g _ _ hl => hb4.block g hl)
                          clear hb4
                          go_wp2
                          refine ⟨⟨0 + 1, by omega, by go_num, ?_, ?_, HGN.out, HB6.out⟩, by simp [intOf]; omega⟩
                          · rw [HPN.out, ownS_snoc, ← HX4.out, HY4.out]; simp
                          · rw [HPN.out, seqC_snoc, List.length_append, ← HX0.out, ← HM.out]; exact HO6.out

                    · obtain ⟨j, hj⟩ := nth_of (show u < q.length by omega)
                      obtain ⟨b', o', e, hP', hbz', e0, _⟩ := (HL.out.next HBU2.out).at_ hj
                      injection e with e
                      injection e with e1 e2
                      subst e1 e2
                      obtain ⟨y0, hy0⟩ : ∃ x, x = j.sq := ⟨_, rfl⟩
                      rw [← hy0] at e0
                      have HY0 := Lib.hid hy0
                      have HJ := Lib.hid hj
                      have hwi : IntKind.i64.wrap (u : Int) = (u : Int) := IntWalk.i64_in _ (by omega)
                      have hg : (0 : Int) < (u : Int) + 1 := by omega
                      have hu2 : 0 ≤ (u : Int) ∧ (u : Int) < q.length := by omega
                      have ze : bi < V.heap.size := hbz'
                      clear hy0 hj hP' d0 hbz'
                      by_cases hge : x0 ≤ y0
                      · have HGE := Lib.hid hge
                        refine wp_region_held_drew (S := (fun w' => w'.cell? ⟨w.heap.size, 0, none⟩ = some (.int .i64 k) ∧ w'.cell? ⟨w.heap.size, 1, none⟩ = some (.slice A nw c) ∧ w'.cell? ⟨w.heap.size, 2, none⟩ = some (.slice A' n c') ∧ w'.cell? ⟨W0.heap.size, 0, none⟩ = some (.int .i64 x0) ∧ w'.cell? ⟨W0.heap.size, 1, none⟩ = some (.int .i64 (b : Int)) ∧ w'.cell? ⟨W0.heap.size, 2, none⟩ = some (.int .i64 x2) ∧ w'.cell? ⟨W0.heap.size, 3, none⟩ = some (.int .i64 x3) ∧ w'.cell? ⟨W0.heap.size, 4, none⟩ = some (.int .i64 x4) ∧ w'.cell? ⟨bi, oi + u * 5, none⟩ = some (.int .i64 y0))) (by kernel_rfl) ?_ (fun hHeld => ?_)
                        · exact ⟨p0, p1, p2, r0, r1, r2, r3, r4, e0⟩
                        (refine wpAnyH_take (i := 0) (v := ?_) rfl (by kernel_rfl) (by kernel_rfl) (by kernel_rfl) (fun _ _ _ h => h) (Or.inl ⟨by rfl, ?_⟩) (by assumption) ?_; rotate_left 1; (focus (intro w' hSw; (try dsimp only at hSw); go_simp; (try with_reducible rfl); done)); try simp only [Act.put, List.setIfInBounds_toArray, List.set_cons_zero, List.set_cons_succ, List.getElem_toArray, List.getElem_cons_zero])
                        (refine wpAnyH_take (i := 1) (v := ?_) rfl (by kernel_rfl) (by kernel_rfl) (by kernel_rfl) (fun _ _ _ h => h) (Or.inl ⟨by rfl, ?_⟩) (by assumption) ?_; rotate_left 1; (focus (intro w' hSw; (try dsimp only at hSw); go_simp; (try with_reducible rfl); done)); try simp only [Act.put, List.setIfInBounds_toArray, List.set_cons_zero, List.set_cons_succ, List.getElem_toArray, List.getElem_cons_zero, List.getElem_cons_succ])
                        (refine wpAnyH_take (i := 2) (v := ?_) rfl (by kernel_rfl) (by kernel_rfl) (by kernel_rfl) (fun _ _ _ h => h) (Or.inl ⟨by rfl, ?_⟩) (by assumption) ?_; rotate_left 1; (focus (intro w' hSw; (try dsimp only at hSw); go_simp; (try with_reducible rfl); done)); try simp only [Act.put, List.setIfInBounds_toArray, List.set_cons_zero, List.set_cons_succ, List.getElem_toArray, List.getElem_cons_zero, List.getElem_cons_succ])
                        (refine wpAnyH_take (i := 3) (v := ?_) rfl (by kernel_rfl) (by kernel_rfl) (by kernel_rfl) (fun _ _ _ h => h) (Or.inl ⟨by rfl, ?_⟩) (by assumption) ?_; rotate_left 1; (focus (intro w' hSw; (try dsimp only at hSw); go_simp; (try with_reducible rfl); done)); try simp only [Act.put, List.setIfInBounds_toArray, List.set_cons_zero, List.set_cons_succ, List.getElem_toArray, List.getElem_cons_zero, List.getElem_cons_succ])
                        (refine wpAnyH_take (i := 4) (v := ?_) rfl (by kernel_rfl) (by kernel_rfl) (by kernel_rfl) (fun _ _ _ h => h) (Or.inl ⟨by rfl, ?_⟩) (by assumption) ?_; rotate_left 1; (focus (intro w' hSw; (try dsimp only at hSw); go_simp; (try with_reducible rfl); done)); try simp only [Act.put, List.setIfInBounds_toArray, List.set_cons_zero, List.set_cons_succ, List.getElem_toArray, List.getElem_cons_zero, List.getElem_cons_succ])
                        (refine wpAnyH_take (i := 5) (v := ?_) rfl (by kernel_rfl) (by kernel_rfl) (by kernel_rfl) (fun _ _ _ h => h) (Or.inl ⟨by rfl, ?_⟩) (by assumption) ?_; rotate_left 1; (focus (intro w' hSw; (try dsimp only at hSw); go_simp; (try with_reducible rfl); done)); try simp only [Act.put, List.setIfInBounds_toArray, List.set_cons_zero, List.set_cons_succ, List.getElem_toArray, List.getElem_cons_zero, List.getElem_cons_succ])
                        (refine wpAnyH_take (i := 6) (v := ?_) rfl (by kernel_rfl) (by kernel_rfl) (by kernel_rfl) (fun _ _ _ h => h) (Or.inl ⟨by rfl, ?_⟩) (by assumption) ?_; rotate_left 1; (focus (intro w' hSw; (try dsimp only at hSw); go_simp; (try with_reducible rfl); done)); try simp only [Act.put, List.setIfInBounds_toArray, List.set_cons_zero, List.set_cons_succ, List.getElem_toArray, List.getElem_cons_zero, List.getElem_cons_succ])
                        (refine wpAnyH_take (i := 7) (v := ?_) rfl (by kernel_rfl) (by kernel_rfl) (by kernel_rfl) (fun _ _ _ h => h) (Or.inl ⟨by rfl, ?_⟩) (by assumption) ?_; rotate_left 1; (focus (intro w' hSw; (try dsimp only at hSw); go_simp; (try with_reducible rfl); done)); try simp only [Act.put, List.setIfInBounds_toArray, List.set_cons_zero, List.set_cons_succ, List.getElem_toArray, List.getElem_cons_zero, List.getElem_cons_succ])
                        (refine wpAnyH_take (i := 8) (v := ?_) rfl (by kernel_rfl) (by kernel_rfl) (by kernel_rfl) (fun _ _ _ h => h) (Or.inl ⟨by rfl, ?_⟩) (by assumption) ?_; rotate_left 1; (focus (intro w' hSw; (try dsimp only at hSw); go_simp; (try with_reducible rfl); done)); try simp only [Act.put, List.setIfInBounds_toArray, List.set_cons_zero, List.set_cons_succ, List.getElem_toArray, List.getElem_cons_zero, List.getElem_cons_succ])
                        (refine wpAnyH_take (i := 9) (v := ?_) rfl (by kernel_rfl) (by kernel_rfl) (by kernel_rfl) (fun _ _ _ h => h) (Or.inl ⟨by rfl, ?_⟩) (by assumption) ?_; rotate_left 1; (focus (intro w' hSw; (try dsimp only at hSw); go_simp; (try with_reducible rfl); done)); try simp only [Act.put, List.setIfInBounds_toArray, List.set_cons_zero, List.set_cons_succ, List.getElem_toArray, List.getElem_cons_zero, List.getElem_cons_succ])
                        (refine wpAnyH_take (i := 10) (v := ?_) rfl (by kernel_rfl) (by kernel_rfl) (by kernel_rfl) (fun _ _ _ h => h) (Or.inl ⟨by rfl, ?_⟩) (by assumption) ?_; rotate_left 1; (focus (intro w' hSw; (try dsimp only at hSw); go_simp; (try with_reducible rfl); done)); try simp only [Act.put, List.setIfInBounds_toArray, List.set_cons_zero, List.set_cons_succ, List.getElem_toArray, List.getElem_cons_zero, List.getElem_cons_succ])
                        (refine wpAnyH_take (i := 11) (v := ?_) rfl (by kernel_rfl) (by kernel_rfl) (by kernel_rfl) (fun _ _ _ h => h) (Or.inl ⟨by rfl, ?_⟩) (by assumption) ?_; rotate_left 1; (focus (intro w' hSw; (try dsimp only at hSw); go_simp; (try with_reducible rfl); done)); try simp only [Act.put, List.setIfInBounds_toArray, List.set_cons_zero, List.set_cons_succ, List.getElem_toArray, List.getElem_cons_zero, List.getElem_cons_succ])
                        refine wpAnyH_ready (rs := [12]) (by kernel_rfl) (by simp) ?_
                        refine AllReadyH.cons rfl (fun K hK => ?_) AllReadyH.nil
                        go_simp
                        go_at_call 61
                        refine (fitsX_any k A A' nw c n c' F x0 b x2 x3 x4 _ HTD.out hn HV.out hk hw).mono ?_
                        rintro e w1 ⟨r, rfl, hr, hb1⟩
                        have hrt : r = true := hr.2 HF.out
                        subst hrt
                        clear hr
                        go_wp2_with fail
                        refine hK.out _ _ ⟨(hb1.cell (p := ⟨_, 0, none⟩) zs).trans p0, (hb1.cell (p := ⟨_, 1, none⟩) zs).trans p1, (hb1.cell (p := ⟨_, 2, none⟩) zs).trans p2, (hb1.cell (p := ⟨_, 0, none⟩) zi).trans r0, (hb1.cell (p := ⟨_, 1, none⟩) zi).trans r1, (hb1.cell (p := ⟨_, 2, none⟩) zi).trans r2, (hb1.cell (p := ⟨_, 3, none⟩) zi).trans r3, (hb1.cell (p := ⟨_, 4, none⟩) zi).trans r4, (hb1.cell (p := ⟨_, _, none⟩) ze).trans e0⟩ (fun hHeld2 => ?_)
                        clear hK K hHeld
                        try simp only [Act.put, List.setIfInBounds_toArray, List.set_cons_zero, List.set_cons_succ, List.getElem_toArray, List.getElem_cons_zero, List.getElem_cons_succ]
                        (refine wpAnyH_take (i := 13) (v := ?_) rfl (by kernel_rfl) (by kernel_rfl) (by kernel_rfl) (fun _ _ _ h => h) (Or.inl ⟨by rfl, ?_⟩) (by assumption) ?_; rotate_left 1; (focus (intro w' hSw; (try dsimp only at hSw); go_simp; (try with_reducible rfl); done)); try simp only [Act.put, List.setIfInBounds_toArray, List.set_cons_zero, List.set_cons_succ, List.getElem_toArray, List.getElem_cons_zero, List.getElem_cons_succ])
                        (refine wpAnyH_take (i := 14) (v := ?_) rfl (by kernel_rfl) (by kernel_rfl) (by kernel_rfl) (fun _ _ _ h => h) (Or.inl ⟨by rfl, ?_⟩) (by assumption) ?_; rotate_left 1; (focus (intro w' hSw; (try dsimp only at hSw); go_simp; (try with_reducible rfl); done)); try simp only [Act.put, List.setIfInBounds_toArray, List.set_cons_zero, List.set_cons_succ, List.getElem_toArray, List.getElem_cons_zero, List.getElem_cons_succ])
                        (refine wpAnyH_take (i := 15) (v := ?_) rfl (by kernel_rfl) (by kernel_rfl) (by kernel_rfl) (fun _ _ _ h => h) (Or.inl ⟨by rfl, ?_⟩) (by assumption) ?_; rotate_left 1; (focus (intro w' hSw; (try dsimp only at hSw); go_simp; (try with_reducible rfl); done)); try simp only [Act.put, List.setIfInBounds_toArray, List.set_cons_zero, List.set_cons_succ, List.getElem_toArray, List.getElem_cons_zero, List.getElem_cons_succ])
                        (refine wpAnyH_take (i := 16) (v := ?_) rfl (by kernel_rfl) (by kernel_rfl) (by kernel_rfl) (fun _ _ _ h => h) (Or.inl ⟨by rfl, ?_⟩) (by assumption) ?_; rotate_left 1; (focus (intro w' hSw; (try dsimp only at hSw); go_simp; (try with_reducible rfl); done)); try simp only [Act.put, List.setIfInBounds_toArray, List.set_cons_zero, List.set_cons_succ, List.getElem_toArray, List.getElem_cons_zero, List.getElem_cons_succ])
                        (refine wpAnyH_take (i := 17) (v := ?_) rfl (by kernel_rfl) (by kernel_rfl) (by kernel_rfl) (fun _ _ _ h => h) (Or.inl ⟨by rfl, ?_⟩) (by assumption) ?_; rotate_left 1; (focus (intro w' hSw; (try dsimp only at hSw); go_simp; (try with_reducible rfl); done)); try simp only [Act.put, List.setIfInBounds_toArray, List.set_cons_zero, List.set_cons_succ, List.getElem_toArray, List.getElem_cons_zero, List.getElem_cons_succ])
                        (refine wpAnyH_take (i := 18) (v := ?_) rfl (by kernel_rfl) (by kernel_rfl) (by kernel_rfl) (fun _ _ _ h => h) (Or.inl ⟨by rfl, ?_⟩) (by assumption) ?_; rotate_left 1; (focus (intro w' hSw; (try dsimp only at hSw); go_simp; (try with_reducible rfl); done)); try simp only [Act.put, List.setIfInBounds_toArray, List.set_cons_zero, List.set_cons_succ, List.getElem_toArray, List.getElem_cons_zero, List.getElem_cons_succ])
                        (refine wpAnyH_take (i := 19) (v := ?_) rfl (by kernel_rfl) (by kernel_rfl) (by kernel_rfl) (fun _ _ _ h => h) (Or.inl ⟨by rfl, ?_⟩) (by assumption) ?_; rotate_left 1; (focus (intro w' hSw; (try dsimp only at hSw); go_simp; (try with_reducible rfl); done)); try simp only [Act.put, List.setIfInBounds_toArray, List.set_cons_zero, List.set_cons_succ, List.getElem_toArray, List.getElem_cons_zero, List.getElem_cons_succ])
                        (refine wpAnyH_take (i := 20) (v := ?_) rfl (by kernel_rfl) (by kernel_rfl) (by kernel_rfl) (fun _ _ _ h => h) (Or.inl ⟨by rfl, ?_⟩) (by assumption) ?_; rotate_left 1; (focus (intro w' hSw; (try dsimp only at hSw); go_simp; (try with_reducible rfl); done)); try simp only [Act.put, List.setIfInBounds_toArray, List.set_cons_zero, List.set_cons_succ, List.getElem_toArray, List.getElem_cons_zero, List.getElem_cons_succ])
                        (refine wpAnyH_take (i := 21) (v := ?_) rfl (by kernel_rfl) (by kernel_rfl) (by kernel_rfl) (fun _ _ _ h => h) (Or.inl ⟨by rfl, ?_⟩) (by assumption) ?_; rotate_left 1; (focus (intro w' hSw; (try dsimp only at hSw); go_simp; (try with_reducible rfl); done)); try simp only [Act.put, List.setIfInBounds_toArray, List.set_cons_zero, List.set_cons_succ, List.getElem_toArray, List.getElem_cons_zero, List.getElem_cons_succ])
                        (refine wpAnyH_take (i := 22) (v := ?_) rfl (by kernel_rfl) (by kernel_rfl) (by kernel_rfl) (fun _ _ _ h => h) (Or.inl ⟨by rfl, ?_⟩) (by assumption) ?_; rotate_left 1; (focus (intro w' hSw; (try dsimp only at hSw); go_simp; (try with_reducible rfl); done)); try simp only [Act.put, List.setIfInBounds_toArray, List.set_cons_zero, List.set_cons_succ, List.getElem_toArray, List.getElem_cons_zero, List.getElem_cons_succ])
                        (refine wpAnyH_take (i := 23) (v := ?_) rfl (by kernel_rfl) (by kernel_rfl) (by kernel_rfl) (fun _ _ _ h => h) (Or.inl ⟨by rfl, ?_⟩) (by assumption) ?_; rotate_left 1; (focus (intro w' hSw; (try dsimp only at hSw); go_simp; (try with_reducible rfl); done)); try simp only [Act.put, List.setIfInBounds_toArray, List.set_cons_zero, List.set_cons_succ, List.getElem_toArray, List.getElem_cons_zero, List.getElem_cons_succ])
                        (refine wpAnyH_take (i := 24) (v := ?_) rfl (by kernel_rfl) (by kernel_rfl) (by kernel_rfl) (fun _ _ _ h => h) (Or.inl ⟨by rfl, ?_⟩) (by assumption) ?_; rotate_left 1; (focus (intro w' hSw; (try dsimp only at hSw); go_simp; (try with_reducible rfl); done)); try simp only [Act.put, List.setIfInBounds_toArray, List.set_cons_zero, List.set_cons_succ, List.getElem_toArray, List.getElem_cons_zero, List.getElem_cons_succ])
                        (refine wpAnyH_take (i := 25) (v := ?_) rfl (by kernel_rfl) (by kernel_rfl) (by kernel_rfl) (fun _ _ _ h => h) (Or.inl ⟨by rfl, ?_⟩) (by assumption) ?_; rotate_left 1; (focus (intro w' hSw; (try dsimp only at hSw); go_simp; (try with_reducible rfl); done)); try simp only [Act.put, List.setIfInBounds_toArray, List.set_cons_zero, List.set_cons_succ, List.getElem_toArray, List.getElem_cons_zero, List.getElem_cons_succ])
                        (refine wpAnyH_take (i := 26) (v := ?_) rfl (by kernel_rfl) (by kernel_rfl) (by kernel_rfl) (fun _ _ _ h => h) (Or.inl ⟨by rfl, ?_⟩) (by assumption) ?_; rotate_left 1; (focus (intro w' hSw; (try dsimp only at hSw); go_simp; (try with_reducible rfl); done)); try simp only [Act.put, List.setIfInBounds_toArray, List.set_cons_zero, List.set_cons_succ, List.getElem_toArray, List.getElem_cons_zero, List.getElem_cons_succ])
                        (refine wpAnyH_take (i := 27) (v := ?_) rfl (by kernel_rfl) (by kernel_rfl) (by kernel_rfl) (fun _ _ _ h => h) (Or.inl ⟨by rfl, ?_⟩) (by assumption) ?_; rotate_left 1; (focus (intro w' hSw; (try dsimp only at hSw); go_simp; (try with_reducible rfl); done)); try simp only [Act.put, List.setIfInBounds_toArray, List.set_cons_zero, List.set_cons_succ, List.getElem_toArray, List.getElem_cons_zero, List.getElem_cons_succ])
                        (refine wpAnyH_take (i := 28) (v := ?_) rfl (by kernel_rfl) (by kernel_rfl) (by kernel_rfl) (fun _ _ _ h => h) (Or.inl ⟨by rfl, ?_⟩) (by assumption) ?_; rotate_left 1; (focus (intro w' hSw; (try dsimp only at hSw); go_simp; (try with_reducible rfl); done)); try simp only [Act.put, List.setIfInBounds_toArray, List.set_cons_zero, List.set_cons_succ, List.getElem_toArray, List.getElem_cons_zero, List.getElem_cons_succ])
                        (refine wpAnyH_take (i := 29) (v := ?_) rfl (by kernel_rfl) (by kernel_rfl) (by kernel_rfl) (fun _ _ _ h => h) (Or.inl ⟨by rfl, ?_⟩) (by assumption) ?_; rotate_left 1; (focus (intro w' hSw; (try dsimp only at hSw); go_simp; (try with_reducible rfl); done)); try simp only [Act.put, List.setIfInBounds_toArray, List.set_cons_zero, List.set_cons_succ, List.getElem_toArray, List.getElem_cons_zero, List.getElem_cons_succ])
                        refine wpAnyH_done (by kernel_rfl) ?_ _
                        go_wp2
                        go_ret
                        exact ⟨_, rfl, iff_no (HBAD.out fun h => by
                          have h2 := h.2.2.2 j (by omega) (by simpa using HJ.out)
                          rw [← HY0.out, ← HX0.out] at h2
                          have := HGE.out
                          omega), below_next HBU.out (Nat.le_refl _) (below_next HBU2.out.drew (Nat.le_refl _) hb1)⟩

                      · have HGE := Lib.hid hge
                        have HOKI : Hid (OkB k n nw F b q (u + 1) i) := Lib.hid ⟨HX1.out.symm, by rw [← HX4.out]; omega, HFI.out.2 HF.out, fun j2 _ h2 => by
                          rw [show u + 1 - 1 = u by omega, HJ.out] at h2
                          injection h2 with h2
                          subst h2
                          rw [← HY0.out, ← HX0.out]
                          omega⟩
                        refine wp_region_held_drew (S := (fun w' => w'.cell? ⟨w.heap.size, 0, none⟩ = some (.int .i64 k) ∧ w'.cell? ⟨w.heap.size, 1, none⟩ = some (.slice A nw c) ∧ w'.cell? ⟨w.heap.size, 2, none⟩ = some (.slice A' n c') ∧ w'.cell? ⟨W0.heap.size, 0, none⟩ = some (.int .i64 x0) ∧ w'.cell? ⟨W0.heap.size, 1, none⟩ = some (.int .i64 (b : Int)) ∧ w'.cell? ⟨W0.heap.size, 2, none⟩ = some (.int .i64 x2) ∧ w'.cell? ⟨W0.heap.size, 3, none⟩ = some (.int .i64 x3) ∧ w'.cell? ⟨W0.heap.size, 4, none⟩ = some (.int .i64 x4) ∧ w'.cell? ⟨bi, oi + u * 5, none⟩ = some (.int .i64 y0))) (by kernel_rfl) ?_ (fun hHeld => ?_)
                        · exact ⟨p0, p1, p2, r0, r1, r2, r3, r4, e0⟩
                        (refine wpAnyH_take (i := 0) (v := ?_) rfl (by kernel_rfl) (by kernel_rfl) (by kernel_rfl) (fun _ _ _ h => h) (Or.inl ⟨by rfl, ?_⟩) (by assumption) ?_; rotate_left 1; (focus (intro w' hSw; (try dsimp only at hSw); go_simp; (try with_reducible rfl); done)); try simp only [Act.put, List.setIfInBounds_toArray, List.set_cons_zero, List.set_cons_succ, List.getElem_toArray, List.getElem_cons_zero])
                        (refine wpAnyH_take (i := 1) (v := ?_) rfl (by kernel_rfl) (by kernel_rfl) (by kernel_rfl) (fun _ _ _ h => h) (Or.inl ⟨by rfl, ?_⟩) (by assumption) ?_; rotate_left 1; (focus (intro w' hSw; (try dsimp only at hSw); go_simp; (try with_reducible rfl); done)); try simp only [Act.put, List.setIfInBounds_toArray, List.set_cons_zero, List.set_cons_succ, List.getElem_toArray, List.getElem_cons_zero, List.getElem_cons_succ])
                        (refine wpAnyH_take (i := 2) (v := ?_) rfl (by kernel_rfl) (by kernel_rfl) (by kernel_rfl) (fun _ _ _ h => h) (Or.inl ⟨by rfl, ?_⟩) (by assumption) ?_; rotate_left 1; (focus (intro w' hSw; (try dsimp only at hSw); go_simp; (try with_reducible rfl); done)); try simp only [Act.put, List.setIfInBounds_toArray, List.set_cons_zero, List.set_cons_succ, List.getElem_toArray, List.getElem_cons_zero, List.getElem_cons_succ])
                        (refine wpAnyH_take (i := 3) (v := ?_) rfl (by kernel_rfl) (by kernel_rfl) (by kernel_rfl) (fun _ _ _ h => h) (Or.inl ⟨by rfl, ?_⟩) (by assumption) ?_; rotate_left 1; (focus (intro w' hSw; (try dsimp only at hSw); go_simp; (try with_reducible rfl); done)); try simp only [Act.put, List.setIfInBounds_toArray, List.set_cons_zero, List.set_cons_succ, List.getElem_toArray, List.getElem_cons_zero, List.getElem_cons_succ])
                        (refine wpAnyH_take (i := 4) (v := ?_) rfl (by kernel_rfl) (by kernel_rfl) (by kernel_rfl) (fun _ _ _ h => h) (Or.inl ⟨by rfl, ?_⟩) (by assumption) ?_; rotate_left 1; (focus (intro w' hSw; (try dsimp only at hSw); go_simp; (try with_reducible rfl); done)); try simp only [Act.put, List.setIfInBounds_toArray, List.set_cons_zero, List.set_cons_succ, List.getElem_toArray, List.getElem_cons_zero, List.getElem_cons_succ])
                        (refine wpAnyH_take (i := 5) (v := ?_) rfl (by kernel_rfl) (by kernel_rfl) (by kernel_rfl) (fun _ _ _ h => h) (Or.inl ⟨by rfl, ?_⟩) (by assumption) ?_; rotate_left 1; (focus (intro w' hSw; (try dsimp only at hSw); go_simp; (try with_reducible rfl); done)); try simp only [Act.put, List.setIfInBounds_toArray, List.set_cons_zero, List.set_cons_succ, List.getElem_toArray, List.getElem_cons_zero, List.getElem_cons_succ])
                        (refine wpAnyH_take (i := 6) (v := ?_) rfl (by kernel_rfl) (by kernel_rfl) (by kernel_rfl) (fun _ _ _ h => h) (Or.inl ⟨by rfl, ?_⟩) (by assumption) ?_; rotate_left 1; (focus (intro w' hSw; (try dsimp only at hSw); go_simp; (try with_reducible rfl); done)); try simp only [Act.put, List.setIfInBounds_toArray, List.set_cons_zero, List.set_cons_succ, List.getElem_toArray, List.getElem_cons_zero, List.getElem_cons_succ])
                        (refine wpAnyH_take (i := 7) (v := ?_) rfl (by kernel_rfl) (by kernel_rfl) (by kernel_rfl) (fun _ _ _ h => h) (Or.inl ⟨by rfl, ?_⟩) (by assumption) ?_; rotate_left 1; (focus (intro w' hSw; (try dsimp only at hSw); go_simp; (try with_reducible rfl); done)); try simp only [Act.put, List.setIfInBounds_toArray, List.set_cons_zero, List.set_cons_succ, List.getElem_toArray, List.getElem_cons_zero, List.getElem_cons_succ])
                        (refine wpAnyH_take (i := 8) (v := ?_) rfl (by kernel_rfl) (by kernel_rfl) (by kernel_rfl) (fun _ _ _ h => h) (Or.inl ⟨by rfl, ?_⟩) (by assumption) ?_; rotate_left 1; (focus (intro w' hSw; (try dsimp only at hSw); go_simp; (try with_reducible rfl); done)); try simp only [Act.put, List.setIfInBounds_toArray, List.set_cons_zero, List.set_cons_succ, List.getElem_toArray, List.getElem_cons_zero, List.getElem_cons_succ])
                        (refine wpAnyH_take (i := 9) (v := ?_) rfl (by kernel_rfl) (by kernel_rfl) (by kernel_rfl) (fun _ _ _ h => h) (Or.inl ⟨by rfl, ?_⟩) (by assumption) ?_; rotate_left 1; (focus (intro w' hSw; (try dsimp only at hSw); go_simp; (try with_reducible rfl); done)); try simp only [Act.put, List.setIfInBounds_toArray, List.set_cons_zero, List.set_cons_succ, List.getElem_toArray, List.getElem_cons_zero, List.getElem_cons_succ])
                        (refine wpAnyH_take (i := 10) (v := ?_) rfl (by kernel_rfl) (by kernel_rfl) (by kernel_rfl) (fun _ _ _ h => h) (Or.inl ⟨by rfl, ?_⟩) (by assumption) ?_; rotate_left 1; (focus (intro w' hSw; (try dsimp only at hSw); go_simp; (try with_reducible rfl); done)); try simp only [Act.put, List.setIfInBounds_toArray, List.set_cons_zero, List.set_cons_succ, List.getElem_toArray, List.getElem_cons_zero, List.getElem_cons_succ])
                        (refine wpAnyH_take (i := 11) (v := ?_) rfl (by kernel_rfl) (by kernel_rfl) (by kernel_rfl) (fun _ _ _ h => h) (Or.inl ⟨by rfl, ?_⟩) (by assumption) ?_; rotate_left 1; (focus (intro w' hSw; (try dsimp only at hSw); go_simp; (try with_reducible rfl); done)); try simp only [Act.put, List.setIfInBounds_toArray, List.set_cons_zero, List.set_cons_succ, List.getElem_toArray, List.getElem_cons_zero, List.getElem_cons_succ])
                        refine wpAnyH_ready (rs := [12]) (by kernel_rfl) (by simp) ?_
                        refine AllReadyH.cons rfl (fun K hK => ?_) AllReadyH.nil
                        go_simp
                        go_at_call 61
                        refine (fitsX_any k A A' nw c n c' F x0 b x2 x3 x4 _ HTD.out hn HV.out hk hw).mono ?_
                        rintro e w1 ⟨r, rfl, hr, hb1⟩
                        have hrt : r = true := hr.2 HF.out
                        subst hrt
                        clear hr
                        go_wp2_with fail
                        refine hK.out _ _ ⟨(hb1.cell (p := ⟨_, 0, none⟩) zs).trans p0, (hb1.cell (p := ⟨_, 1, none⟩) zs).trans p1, (hb1.cell (p := ⟨_, 2, none⟩) zs).trans p2, (hb1.cell (p := ⟨_, 0, none⟩) zi).trans r0, (hb1.cell (p := ⟨_, 1, none⟩) zi).trans r1, (hb1.cell (p := ⟨_, 2, none⟩) zi).trans r2, (hb1.cell (p := ⟨_, 3, none⟩) zi).trans r3, (hb1.cell (p := ⟨_, 4, none⟩) zi).trans r4, (hb1.cell (p := ⟨_, _, none⟩) ze).trans e0⟩ (fun hHeld2 => ?_)
                        clear hK K hHeld
                        try simp only [Act.put, List.setIfInBounds_toArray, List.set_cons_zero, List.set_cons_succ, List.getElem_toArray, List.getElem_cons_zero, List.getElem_cons_succ]
                        (refine wpAnyH_take (i := 13) (v := ?_) rfl (by kernel_rfl) (by kernel_rfl) (by kernel_rfl) (fun _ _ _ h => h) (Or.inl ⟨by rfl, ?_⟩) (by assumption) ?_; rotate_left 1; (focus (intro w' hSw; (try dsimp only at hSw); go_simp; (try with_reducible rfl); done)); try simp only [Act.put, List.setIfInBounds_toArray, List.set_cons_zero, List.set_cons_succ, List.getElem_toArray, List.getElem_cons_zero, List.getElem_cons_succ])
                        (refine wpAnyH_take (i := 14) (v := ?_) rfl (by kernel_rfl) (by kernel_rfl) (by kernel_rfl) (fun _ _ _ h => h) (Or.inl ⟨by rfl, ?_⟩) (by assumption) ?_; rotate_left 1; (focus (intro w' hSw; (try dsimp only at hSw); go_simp; (try with_reducible rfl); done)); try simp only [Act.put, List.setIfInBounds_toArray, List.set_cons_zero, List.set_cons_succ, List.getElem_toArray, List.getElem_cons_zero, List.getElem_cons_succ])
                        (refine wpAnyH_take (i := 15) (v := ?_) rfl (by kernel_rfl) (by kernel_rfl) (by kernel_rfl) (fun _ _ _ h => h) (Or.inl ⟨by rfl, ?_⟩) (by assumption) ?_; rotate_left 1; (focus (intro w' hSw; (try dsimp only at hSw); go_simp; (try with_reducible rfl); done)); try simp only [Act.put, List.setIfInBounds_toArray, List.set_cons_zero, List.set_cons_succ, List.getElem_toArray, List.getElem_cons_zero, List.getElem_cons_succ])
                        (refine wpAnyH_take (i := 16) (v := ?_) rfl (by kernel_rfl) (by kernel_rfl) (by kernel_rfl) (fun _ _ _ h => h) (Or.inl ⟨by rfl, ?_⟩) (by assumption) ?_; rotate_left 1; (focus (intro w' hSw; (try dsimp only at hSw); go_simp; (try with_reducible rfl); done)); try simp only [Act.put, List.setIfInBounds_toArray, List.set_cons_zero, List.set_cons_succ, List.getElem_toArray, List.getElem_cons_zero, List.getElem_cons_succ])
                        (refine wpAnyH_take (i := 17) (v := ?_) rfl (by kernel_rfl) (by kernel_rfl) (by kernel_rfl) (fun _ _ _ h => h) (Or.inl ⟨by rfl, ?_⟩) (by assumption) ?_; rotate_left 1; (focus (intro w' hSw; (try dsimp only at hSw); go_simp; (try with_reducible rfl); done)); try simp only [Act.put, List.setIfInBounds_toArray, List.set_cons_zero, List.set_cons_succ, List.getElem_toArray, List.getElem_cons_zero, List.getElem_cons_succ])
                        (refine wpAnyH_take (i := 18) (v := ?_) rfl (by kernel_rfl) (by kernel_rfl) (by kernel_rfl) (fun _ _ _ h => h) (Or.inl ⟨by rfl, ?_⟩) (by assumption) ?_; rotate_left 1; (focus (intro w' hSw; (try dsimp only at hSw); go_simp; (try with_reducible rfl); done)); try simp only [Act.put, List.setIfInBounds_toArray, List.set_cons_zero, List.set_cons_succ, List.getElem_toArray, List.getElem_cons_zero, List.getElem_cons_succ])
                        (refine wpAnyH_take (i := 19) (v := ?_) rfl (by kernel_rfl) (by kernel_rfl) (by kernel_rfl) (fun _ _ _ h => h) (Or.inl ⟨by rfl, ?_⟩) (by assumption) ?_; rotate_left 1; (focus (intro w' hSw; (try dsimp only at hSw); go_simp; (try with_reducible rfl); done)); try simp only [Act.put, List.setIfInBounds_toArray, List.set_cons_zero, List.set_cons_succ, List.getElem_toArray, List.getElem_cons_zero, List.getElem_cons_succ])
                        (refine wpAnyH_take (i := 20) (v := ?_) rfl (by kernel_rfl) (by kernel_rfl) (by kernel_rfl) (fun _ _ _ h => h) (Or.inl ⟨by rfl, ?_⟩) (by assumption) ?_; rotate_left 1; (focus (intro w' hSw; (try dsimp only at hSw); go_simp; (try with_reducible rfl); done)); try simp only [Act.put, List.setIfInBounds_toArray, List.set_cons_zero, List.set_cons_succ, List.getElem_toArray, List.getElem_cons_zero, List.getElem_cons_succ])
                        (refine wpAnyH_take (i := 21) (v := ?_) rfl (by kernel_rfl) (by kernel_rfl) (by kernel_rfl) (fun _ _ _ h => h) (Or.inl ⟨by rfl, ?_⟩) (by assumption) ?_; rotate_left 1; (focus (intro w' hSw; (try dsimp only at hSw); go_simp; (try with_reducible rfl); done)); try simp only [Act.put, List.setIfInBounds_toArray, List.set_cons_zero, List.set_cons_succ, List.getElem_toArray, List.getElem_cons_zero, List.getElem_cons_succ])
                        (refine wpAnyH_take (i := 22) (v := ?_) rfl (by kernel_rfl) (by kernel_rfl) (by kernel_rfl) (fun _ _ _ h => h) (Or.inl ⟨by rfl, ?_⟩) (by assumption) ?_; rotate_left 1; (focus (intro w' hSw; (try dsimp only at hSw); go_simp; (try with_reducible rfl); done)); try simp only [Act.put, List.setIfInBounds_toArray, List.set_cons_zero, List.set_cons_succ, List.getElem_toArray, List.getElem_cons_zero, List.getElem_cons_succ])
                        (refine wpAnyH_take (i := 23) (v := ?_) rfl (by kernel_rfl) (by kernel_rfl) (by kernel_rfl) (fun _ _ _ h => h) (Or.inl ⟨by rfl, ?_⟩) (by assumption) ?_; rotate_left 1; (focus (intro w' hSw; (try dsimp only at hSw); go_simp; (try with_reducible rfl); done)); try simp only [Act.put, List.setIfInBounds_toArray, List.set_cons_zero, List.set_cons_succ, List.getElem_toArray, List.getElem_cons_zero, List.getElem_cons_succ])
                        (refine wpAnyH_take (i := 24) (v := ?_) rfl (by kernel_rfl) (by kernel_rfl) (by kernel_rfl) (fun _ _ _ h => h) (Or.inl ⟨by rfl, ?_⟩) (by assumption) ?_; rotate_left 1; (focus (intro w' hSw; (try dsimp only at hSw); go_simp; (try with_reducible rfl); done)); try simp only [Act.put, List.setIfInBounds_toArray, List.set_cons_zero, List.set_cons_succ, List.getElem_toArray, List.getElem_cons_zero, List.getElem_cons_succ])
                        (refine wpAnyH_take (i := 25) (v := ?_) rfl (by kernel_rfl) (by kernel_rfl) (by kernel_rfl) (fun _ _ _ h => h) (Or.inl ⟨by rfl, ?_⟩) (by assumption) ?_; rotate_left 1; (focus (intro w' hSw; (try dsimp only at hSw); go_simp; (try with_reducible rfl); done)); try simp only [Act.put, List.setIfInBounds_toArray, List.set_cons_zero, List.set_cons_succ, List.getElem_toArray, List.getElem_cons_zero, List.getElem_cons_succ])
                        (refine wpAnyH_take (i := 26) (v := ?_) rfl (by kernel_rfl) (by kernel_rfl) (by kernel_rfl) (fun _ _ _ h => h) (Or.inl ⟨by rfl, ?_⟩) (by assumption) ?_; rotate_left 1; (focus (intro w' hSw; (try dsimp only at hSw); go_simp; (try with_reducible rfl); done)); try simp only [Act.put, List.setIfInBounds_toArray, List.set_cons_zero, List.set_cons_succ, List.getElem_toArray, List.getElem_cons_zero, List.getElem_cons_succ])
                        (refine wpAnyH_take (i := 27) (v := ?_) rfl (by kernel_rfl) (by kernel_rfl) (by kernel_rfl) (fun _ _ _ h => h) (Or.inl ⟨by rfl, ?_⟩) (by assumption) ?_; rotate_left 1; (focus (intro w' hSw; (try dsimp only at hSw); go_simp; (try with_reducible rfl); done)); try simp only [Act.put, List.setIfInBounds_toArray, List.set_cons_zero, List.set_cons_succ, List.getElem_toArray, List.getElem_cons_zero, List.getElem_cons_succ])
                        (refine wpAnyH_take (i := 28) (v := ?_) rfl (by kernel_rfl) (by kernel_rfl) (by kernel_rfl) (fun _ _ _ h => h) (Or.inl ⟨by rfl, ?_⟩) (by assumption) ?_; rotate_left 1; (focus (intro w' hSw; (try dsimp only at hSw); go_simp; (try with_reducible rfl); done)); try simp only [Act.put, List.setIfInBounds_toArray, List.set_cons_zero, List.set_cons_succ, List.getElem_toArray, List.getElem_cons_zero, List.getElem_cons_succ])
                        (refine wpAnyH_take (i := 29) (v := ?_) rfl (by kernel_rfl) (by kernel_rfl) (by kernel_rfl) (fun _ _ _ h => h) (Or.inl ⟨by rfl, ?_⟩) (by assumption) ?_; rotate_left 1; (focus (intro w' hSw; (try dsimp only at hSw); go_simp; (try with_reducible rfl); done)); try simp only [Act.put, List.setIfInBounds_toArray, List.set_cons_zero, List.set_cons_succ, List.getElem_toArray, List.getElem_cons_zero, List.getElem_cons_succ])
                        refine wpAnyH_done (by kernel_rfl) ?_ _
                        have HB3 : Hid (Below W0.heap.size W0 w1) := below_next HBV.out.drew (Nat.le_refl _) hb1
                        have HO3 := Lib.hid (ownsRow_keep HOM.out fun g _ _ hl => HB3.out.block g hl)
                        have BI3 := Lib.hid (BIV.out.next' hb1)
                        have HB4 : Hid (Below U.heap.size U w1) := below_next HB2.out (Nat.le_refl _) HB3.out
                        clear hb1 p0 p1 p2 r0 r1 r2 r3 r4 HTD e0
                        go_wp2_with fail
                        go_loopw [70] (fun v W0' => ∃ v' : Nat, v' ≤ m ∧ v = .int .i64 v' ∧ (∀ (j : Nat) (y : IncR), j < v' → (preQ Q b (u + 1))[j]? = some y → y.sq ≠ x0) ∧ w1 = W0') (fun v _ => m - (intOf v).toNat)
                        case atStart => exact ⟨0, by omega, rfl, fun j y hj => by omega, rfl⟩
                        case round =>
                          obtain ⟨v, hv, rfl, hno, hwr⟩ := hrel
                          subst hwr
                          have HNO := Lib.hid hno
                          clear hno
                          have r0 := BI3.out.cell 0
                          have r1 := BI3.out.cell 1
                          have r2 := BI3.out.cell 2
                          have r3 := BI3.out.cell 3
                          have r4 := BI3.out.cell 4
                          simp at r0 r1 r2 r3 r4
                          have zi : W0.heap.size < w1.heap.size := BI3.out.lt
                          by_cases hvm : v < m
                          · have hvm2 : 0 ≤ (v : Int) ∧ (v : Int) < m := by omega
                            obtain ⟨z, hz⟩ := nth_of (show v < (preQ Q b (u + 1)).length by have := HM.out; omega)
                            obtain ⟨g, cap, e, _, hg, hc⟩ := row_at HO3.out (show v < m from hvm)
                            injection e with e1 _ e2
                            subst e1
                            have hcz : (seqC (preQ Q b (u + 1)))[v]? = some (.int .i64 z.sq) := by simp [seqC, hz]
                            rw [hcz] at hc
                            obtain ⟨z0, hz0⟩ : ∃ y, y = z.sq := ⟨_, rfl⟩
                            rw [← hz0] at hc
                            have HZ0 := Lib.hid hz0
                            have HZ := Lib.hid hz
                            clear hz0 hz hcz e2
                            by_cases hzx : z0 = x0
                            · have HZX := Lib.hid hzx
                              have hzb : (z0 == x0) = true := by simpa using hzx
                              clear hzx
                              go_wp2
                              go_ret
                              exact ⟨_, rfl, iff_no (bad_dup HV.out HQE.out HI.out (by
                                rw [← HX0.out, ← HZX.out, HZ0.out]
                                exact List.mem_map.2 ⟨z, List.mem_iff_getElem?.2 ⟨v, HZ.out⟩, rfl⟩)), below_next HBU.out (Nat.le_refl _) HB4.out⟩
                            · have HZX := Lib.hid hzx
                              have hzb : (z0 == x0) = false := by simpa using hzx
                              clear hzx
                              go_wp2
                              exact ⟨⟨v + 1, by omega, by go_num, fun j y hj hy => by
                                rcases (by omega : j < v ∨ j = v) with h | h
                                · exact HNO.out j y h hy
                                · subst h
                                  rw [HZ.out] at hy
                                  injection hy with hy
                                  subst hy
                                  rw [← HZ0.out]
                                  exact HZX.out, by trivial⟩, by simp [intOf]; omega⟩
                          · have hvm2 : ¬ (v : Int) < m := by omega
                            have HND : Hid (i.sq ∉ (preQ Q b (u + 1)).map fun i => i.sq) := Lib.hid (fun h => by
                              obtain ⟨y, hy, e⟩ := List.mem_map.1 h
                              obtain ⟨j, hj⟩ := List.mem_iff_getElem?.1 hy
                              have := HNO.out j y (by have := get_lt hj; have := HM.out; omega) hj
                              rw [HX0.out] at this
                              exact this e)
                            have HGN := Lib.hid (good_next HG2.out HQE.out HI.out HOKI.out HND.out)
                            have HPN := Lib.hid (preQ_next HQE.out HI.out)
                            have hob := row_block HO3.out
                            have hlt' := World.ownsRow.lt HOM.out
                            have HOA := Lib.hid (HO3.out.alloc (.cells #[.int .i64 x0] 3))
                            go_wp2_with (at_builtin; refine wpList_append_own _ rfl _ _ 27 rfl U.heap.size 3 i0 (.int .i64 0) 1 8 Try.underlying27 hi0 hz0 hz1 hz2 rfl (by decide) _ m (seqC (preQ Q b (u + 1))) rfl HOA.out ⟨w1.heap.size, 0, none⟩ 1 1 [.int .i64 x0] rfl rfl ?d1 (by simp [Value.oneCell']) HM1.out HM2.out ?d5 ?_)
                            try (case d1 => exact one_news (by go_simp))
                            try (case d5 => have := HB4.out.size; simp; omega)
                            intro v' w2 hown' hgrow _
                            have hBA : Hid (Below U.heap.size U w2) := (HB4.out.alloc HB4.out.size _).grown hgrow (by simp; have := HB4.out.size; omega) hob
                            have hne : ∀ j, some (⟨W0.heap.size, j, none⟩ : Addr).block ≠ (Value.slice As m cs).ownBlock := fun j e => by
                              have := (hlt' _ e.symm).2
                              simp at this
                            have g0 := World.grownBy.cell hgrow (Lib.cell?_alloc_some (.cells #[.int .i64 x0] 3) r0) (hne 0)
                            have g1 := World.grownBy.cell hgrow (Lib.cell?_alloc_some (.cells #[.int .i64 x0] 3) r1) (hne 1)
                            have g2 := World.grownBy.cell hgrow (Lib.cell?_alloc_some (.cells #[.int .i64 x0] 3) r2) (hne 2)
                            have g3 := World.grownBy.cell hgrow (Lib.cell?_alloc_some (.cells #[.int .i64 x0] 3) r3) (hne 3)
                            have g4 := World.grownBy.cell hgrow (Lib.cell?_alloc_some (.cells #[.int .i64 x0] 3) r4) (hne 4)
                            have zg : W0.heap.size < w2.heap.size := cell_lt g0
                            have BS2 := BS.out.next hBA.out
                            have p0 := BS2.cell 0
                            have p1 := BS2.cell 1
                            have p2 := BS2.cell 2
                            simp at p0 p1 p2
                            have zs : w.heap.size < w2.heap.size := BS2.lt
                            have HON := Lib.hid hown'
                            obtain ⟨y4, hy4⟩ : ∃ y4 : Nat, x4 = y4 := ⟨x4.toNat, by have := HX4P.out; omega⟩
                            have hcl := ceilZ_nat (W := y4) (k := k) (by have := HX4P.out; omega) (by omega)
                            have hc4 : ceilV y4 k ≤ 64 := by
                              have h1 := HF.out.2 (by have := HX4P.out; omega)
                              have h2 := cntO_le F x0 n
                              rw [hy4, Int.toNat_natCast] at h1
                              omega
                            have HCL := Lib.hid hcl
                            have HY4 := Lib.hid hy4
                            have hwr : IntKind.i64.wrap (((ownS k (preQ Q b (u + 1)) : Nat) : Int) + ((ceilV y4 k : Nat) : Int)) = ((ownS k (preQ Q b (u + 1)) + ceilV y4 k : Nat) : Int) := by rw [IntWalk.i64_in _ (by omega)]; omega
                            clear hown' hgrow hob hlt' hne BS2 r0 r1 r2 r3 r4 hcl hy4
                            go_wp2_with fail
                            refine (refFrames9_any k x4 (.slice A nw c) (.slice A' n c') x0 b x2 x3 w2).mono ?_
                            rintro e w4 ⟨rfl, hb4⟩
                            rw [HY4.out, HCL.out]
                            have HB6 : Hid (Below U.heap.size U w4) := below_next hBA.out (Nat.le_refl _) hb4
                            have HO6 := Lib.hid (ownsRow_keep HON.out fun g _ _ hl => hb4.block g hl)
                            clear hb4
                            go_wp2
                            refine ⟨⟨(u + 1) + 1, by omega, by go_num, ?_, ?_, HGN.out, HB6.out⟩, by simp [intOf]; omega⟩
                            · rw [HPN.out, ownS_snoc, ← HX4.out, HY4.out]; simp
                            · rw [HPN.out, seqC_snoc, List.length_append, ← HX0.out, ← HM.out]; exact HO6.out

                  · have HF := Lib.hid hf
                    clear hf
                    refine wp_region_held_drew (S := (fun w' => w'.cell? ⟨w.heap.size, 0, none⟩ = some (.int .i64 k) ∧ w'.cell? ⟨w.heap.size, 1, none⟩ = some (.slice A nw c) ∧ w'.cell? ⟨w.heap.size, 2, none⟩ = some (.slice A' n c') ∧ w'.cell? ⟨W0.heap.size, 0, none⟩ = some (.int .i64 x0) ∧ w'.cell? ⟨W0.heap.size, 1, none⟩ = some (.int .i64 (b : Int)) ∧ w'.cell? ⟨W0.heap.size, 2, none⟩ = some (.int .i64 x2) ∧ w'.cell? ⟨W0.heap.size, 3, none⟩ = some (.int .i64 x3) ∧ w'.cell? ⟨W0.heap.size, 4, none⟩ = some (.int .i64 x4))) (by kernel_rfl) ?_ (fun hHeld => ?_)
                    · exact ⟨p0, p1, p2, r0, r1, r2, r3, r4⟩
                    (refine wpAnyH_take (i := 0) (v := ?_) rfl (by kernel_rfl) (by kernel_rfl) (by kernel_rfl) (fun _ _ _ h => h) (Or.inl ⟨by rfl, ?_⟩) (by assumption) ?_; rotate_left 1; (focus (intro w' hSw; (try dsimp only at hSw); go_simp; (try with_reducible rfl); done)); try simp only [Act.put, List.setIfInBounds_toArray, List.set_cons_zero, List.set_cons_succ, List.getElem_toArray, List.getElem_cons_zero])
                    (refine wpAnyH_take (i := 1) (v := ?_) rfl (by kernel_rfl) (by kernel_rfl) (by kernel_rfl) (fun _ _ _ h => h) (Or.inl ⟨by rfl, ?_⟩) (by assumption) ?_; rotate_left 1; (focus (intro w' hSw; (try dsimp only at hSw); go_simp; (try with_reducible rfl); done)); try simp only [Act.put, List.setIfInBounds_toArray, List.set_cons_zero, List.set_cons_succ, List.getElem_toArray, List.getElem_cons_zero, List.getElem_cons_succ])
                    (refine wpAnyH_take (i := 2) (v := ?_) rfl (by kernel_rfl) (by kernel_rfl) (by kernel_rfl) (fun _ _ _ h => h) (Or.inl ⟨by rfl, ?_⟩) (by assumption) ?_; rotate_left 1; (focus (intro w' hSw; (try dsimp only at hSw); go_simp; (try with_reducible rfl); done)); try simp only [Act.put, List.setIfInBounds_toArray, List.set_cons_zero, List.set_cons_succ, List.getElem_toArray, List.getElem_cons_zero, List.getElem_cons_succ])
                    (refine wpAnyH_take (i := 3) (v := ?_) rfl (by kernel_rfl) (by kernel_rfl) (by kernel_rfl) (fun _ _ _ h => h) (Or.inl ⟨by rfl, ?_⟩) (by assumption) ?_; rotate_left 1; (focus (intro w' hSw; (try dsimp only at hSw); go_simp; (try with_reducible rfl); done)); try simp only [Act.put, List.setIfInBounds_toArray, List.set_cons_zero, List.set_cons_succ, List.getElem_toArray, List.getElem_cons_zero, List.getElem_cons_succ])
                    (refine wpAnyH_take (i := 4) (v := ?_) rfl (by kernel_rfl) (by kernel_rfl) (by kernel_rfl) (fun _ _ _ h => h) (Or.inl ⟨by rfl, ?_⟩) (by assumption) ?_; rotate_left 1; (focus (intro w' hSw; (try dsimp only at hSw); go_simp; (try with_reducible rfl); done)); try simp only [Act.put, List.setIfInBounds_toArray, List.set_cons_zero, List.set_cons_succ, List.getElem_toArray, List.getElem_cons_zero, List.getElem_cons_succ])
                    (refine wpAnyH_take (i := 5) (v := ?_) rfl (by kernel_rfl) (by kernel_rfl) (by kernel_rfl) (fun _ _ _ h => h) (Or.inl ⟨by rfl, ?_⟩) (by assumption) ?_; rotate_left 1; (focus (intro w' hSw; (try dsimp only at hSw); go_simp; (try with_reducible rfl); done)); try simp only [Act.put, List.setIfInBounds_toArray, List.set_cons_zero, List.set_cons_succ, List.getElem_toArray, List.getElem_cons_zero, List.getElem_cons_succ])
                    (refine wpAnyH_take (i := 6) (v := ?_) rfl (by kernel_rfl) (by kernel_rfl) (by kernel_rfl) (fun _ _ _ h => h) (Or.inl ⟨by rfl, ?_⟩) (by assumption) ?_; rotate_left 1; (focus (intro w' hSw; (try dsimp only at hSw); go_simp; (try with_reducible rfl); done)); try simp only [Act.put, List.setIfInBounds_toArray, List.set_cons_zero, List.set_cons_succ, List.getElem_toArray, List.getElem_cons_zero, List.getElem_cons_succ])
                    (refine wpAnyH_take (i := 7) (v := ?_) rfl (by kernel_rfl) (by kernel_rfl) (by kernel_rfl) (fun _ _ _ h => h) (Or.inl ⟨by rfl, ?_⟩) (by assumption) ?_; rotate_left 1; (focus (intro w' hSw; (try dsimp only at hSw); go_simp; (try with_reducible rfl); done)); try simp only [Act.put, List.setIfInBounds_toArray, List.set_cons_zero, List.set_cons_succ, List.getElem_toArray, List.getElem_cons_zero, List.getElem_cons_succ])
                    (refine wpAnyH_take (i := 8) (v := ?_) rfl (by kernel_rfl) (by kernel_rfl) (by kernel_rfl) (fun _ _ _ h => h) (Or.inl ⟨by rfl, ?_⟩) (by assumption) ?_; rotate_left 1; (focus (intro w' hSw; (try dsimp only at hSw); go_simp; (try with_reducible rfl); done)); try simp only [Act.put, List.setIfInBounds_toArray, List.set_cons_zero, List.set_cons_succ, List.getElem_toArray, List.getElem_cons_zero, List.getElem_cons_succ])
                    (refine wpAnyH_take (i := 9) (v := ?_) rfl (by kernel_rfl) (by kernel_rfl) (by kernel_rfl) (fun _ _ _ h => h) (Or.inl ⟨by rfl, ?_⟩) (by assumption) ?_; rotate_left 1; (focus (intro w' hSw; (try dsimp only at hSw); go_simp; (try with_reducible rfl); done)); try simp only [Act.put, List.setIfInBounds_toArray, List.set_cons_zero, List.set_cons_succ, List.getElem_toArray, List.getElem_cons_zero, List.getElem_cons_succ])
                    (refine wpAnyH_take (i := 10) (v := ?_) rfl (by kernel_rfl) (by kernel_rfl) (by kernel_rfl) (fun _ _ _ h => h) (Or.inl ⟨by rfl, ?_⟩) (by assumption) ?_; rotate_left 1; (focus (intro w' hSw; (try dsimp only at hSw); go_simp; (try with_reducible rfl); done)); try simp only [Act.put, List.setIfInBounds_toArray, List.set_cons_zero, List.set_cons_succ, List.getElem_toArray, List.getElem_cons_zero, List.getElem_cons_succ])
                    (refine wpAnyH_take (i := 11) (v := ?_) rfl (by kernel_rfl) (by kernel_rfl) (by kernel_rfl) (fun _ _ _ h => h) (Or.inl ⟨by rfl, ?_⟩) (by assumption) ?_; rotate_left 1; (focus (intro w' hSw; (try dsimp only at hSw); go_simp; (try with_reducible rfl); done)); try simp only [Act.put, List.setIfInBounds_toArray, List.set_cons_zero, List.set_cons_succ, List.getElem_toArray, List.getElem_cons_zero, List.getElem_cons_succ])
                    refine wpAnyH_ready (rs := [12]) (by kernel_rfl) (by simp) ?_
                    refine AllReadyH.cons rfl (fun K hK => ?_) AllReadyH.nil
                    go_simp
                    go_at_call 61
                    refine (fitsX_any k A A' nw c n c' F x0 b x2 x3 x4 _ HTD.out hn HV.out hk hw).mono ?_
                    rintro e w1 ⟨r, rfl, hr, hb1⟩
                    have hrt : r = false := Bool.eq_false_iff.2 fun h => HF.out (hr.1 h)
                    subst hrt
                    clear hr
                    go_wp2_with fail
                    refine hK.out _ _ ⟨(hb1.cell (p := ⟨_, 0, none⟩) zs).trans p0, (hb1.cell (p := ⟨_, 1, none⟩) zs).trans p1, (hb1.cell (p := ⟨_, 2, none⟩) zs).trans p2, (hb1.cell (p := ⟨_, 0, none⟩) zi).trans r0, (hb1.cell (p := ⟨_, 1, none⟩) zi).trans r1, (hb1.cell (p := ⟨_, 2, none⟩) zi).trans r2, (hb1.cell (p := ⟨_, 3, none⟩) zi).trans r3, (hb1.cell (p := ⟨_, 4, none⟩) zi).trans r4⟩ (fun hHeld2 => ?_)
                    clear hK K hHeld
                    try simp only [Act.put, List.setIfInBounds_toArray, List.set_cons_zero, List.set_cons_succ, List.getElem_toArray, List.getElem_cons_zero, List.getElem_cons_succ]
                    (refine wpAnyH_take (i := 13) (v := ?_) rfl (by kernel_rfl) (by kernel_rfl) (by kernel_rfl) (fun _ _ _ h => h) (Or.inl ⟨by rfl, ?_⟩) (by assumption) ?_; rotate_left 1; (focus (intro w' hSw; (try dsimp only at hSw); go_simp; (try with_reducible rfl); done)); try simp only [Act.put, List.setIfInBounds_toArray, List.set_cons_zero, List.set_cons_succ, List.getElem_toArray, List.getElem_cons_zero, List.getElem_cons_succ])
                    (refine wpAnyH_take (i := 14) (v := ?_) rfl (by kernel_rfl) (by kernel_rfl) (by kernel_rfl) (fun _ _ _ h => h) (Or.inl ⟨by rfl, ?_⟩) (by assumption) ?_; rotate_left 1; (focus (intro w' hSw; (try dsimp only at hSw); go_simp; (try with_reducible rfl); done)); try simp only [Act.put, List.setIfInBounds_toArray, List.set_cons_zero, List.set_cons_succ, List.getElem_toArray, List.getElem_cons_zero, List.getElem_cons_succ])
                    (refine wpAnyH_take (i := 15) (v := ?_) rfl (by kernel_rfl) (by kernel_rfl) (by kernel_rfl) (fun _ _ _ h => h) (Or.inl ⟨by rfl, ?_⟩) (by assumption) ?_; rotate_left 1; (focus (intro w' hSw; (try dsimp only at hSw); go_simp; (try with_reducible rfl); done)); try simp only [Act.put, List.setIfInBounds_toArray, List.set_cons_zero, List.set_cons_succ, List.getElem_toArray, List.getElem_cons_zero, List.getElem_cons_succ])
                    (refine wpAnyH_take (i := 16) (v := undef) rfl (by kernel_rfl) (by kernel_rfl) (by kernel_rfl) (fun _ _ _ h => h) (Or.inr ⟨by rfl, rfl⟩) (by assumption) ?_; try simp only [Act.put, List.setIfInBounds_toArray, List.set_cons_zero, List.set_cons_succ, List.getElem_toArray, List.getElem_cons_zero, List.getElem_cons_succ])
                    (refine wpAnyH_take (i := 17) (v := undef) rfl (by kernel_rfl) (by kernel_rfl) (by kernel_rfl) (fun _ _ _ h => h) (Or.inr ⟨by rfl, rfl⟩) (by assumption) ?_; try simp only [Act.put, List.setIfInBounds_toArray, List.set_cons_zero, List.set_cons_succ, List.getElem_toArray, List.getElem_cons_zero, List.getElem_cons_succ])
                    (refine wpAnyH_take (i := 18) (v := undef) rfl (by kernel_rfl) (by kernel_rfl) (by kernel_rfl) (fun _ _ _ h => h) (Or.inr ⟨by rfl, rfl⟩) (by assumption) ?_; try simp only [Act.put, List.setIfInBounds_toArray, List.set_cons_zero, List.set_cons_succ, List.getElem_toArray, List.getElem_cons_zero, List.getElem_cons_succ])
                    (refine wpAnyH_take (i := 19) (v := undef) rfl (by kernel_rfl) (by kernel_rfl) (by kernel_rfl) (fun _ _ _ h => h) (Or.inr ⟨by rfl, rfl⟩) (by assumption) ?_; try simp only [Act.put, List.setIfInBounds_toArray, List.set_cons_zero, List.set_cons_succ, List.getElem_toArray, List.getElem_cons_zero, List.getElem_cons_succ])
                    (refine wpAnyH_take (i := 20) (v := undef) rfl (by kernel_rfl) (by kernel_rfl) (by kernel_rfl) (fun _ _ _ h => h) (Or.inr ⟨by rfl, rfl⟩) (by assumption) ?_; try simp only [Act.put, List.setIfInBounds_toArray, List.set_cons_zero, List.set_cons_succ, List.getElem_toArray, List.getElem_cons_zero, List.getElem_cons_succ])
                    (refine wpAnyH_take (i := 21) (v := undef) rfl (by kernel_rfl) (by kernel_rfl) (by kernel_rfl) (fun _ _ _ h => h) (Or.inr ⟨by rfl, rfl⟩) (by assumption) ?_; try simp only [Act.put, List.setIfInBounds_toArray, List.set_cons_zero, List.set_cons_succ, List.getElem_toArray, List.getElem_cons_zero, List.getElem_cons_succ])
                    (refine wpAnyH_take (i := 22) (v := undef) rfl (by kernel_rfl) (by kernel_rfl) (by kernel_rfl) (fun _ _ _ h => h) (Or.inr ⟨by rfl, rfl⟩) (by assumption) ?_; try simp only [Act.put, List.setIfInBounds_toArray, List.set_cons_zero, List.set_cons_succ, List.getElem_toArray, List.getElem_cons_zero, List.getElem_cons_succ])
                    (refine wpAnyH_take (i := 23) (v := undef) rfl (by kernel_rfl) (by kernel_rfl) (by kernel_rfl) (fun _ _ _ h => h) (Or.inr ⟨by rfl, rfl⟩) (by assumption) ?_; try simp only [Act.put, List.setIfInBounds_toArray, List.set_cons_zero, List.set_cons_succ, List.getElem_toArray, List.getElem_cons_zero, List.getElem_cons_succ])
                    (refine wpAnyH_take (i := 24) (v := undef) rfl (by kernel_rfl) (by kernel_rfl) (by kernel_rfl) (fun _ _ _ h => h) (Or.inr ⟨by rfl, rfl⟩) (by assumption) ?_; try simp only [Act.put, List.setIfInBounds_toArray, List.set_cons_zero, List.set_cons_succ, List.getElem_toArray, List.getElem_cons_zero, List.getElem_cons_succ])
                    (refine wpAnyH_take (i := 25) (v := undef) rfl (by kernel_rfl) (by kernel_rfl) (by kernel_rfl) (fun _ _ _ h => h) (Or.inr ⟨by rfl, rfl⟩) (by assumption) ?_; try simp only [Act.put, List.setIfInBounds_toArray, List.set_cons_zero, List.set_cons_succ, List.getElem_toArray, List.getElem_cons_zero, List.getElem_cons_succ])
                    (refine wpAnyH_take (i := 26) (v := undef) rfl (by kernel_rfl) (by kernel_rfl) (by kernel_rfl) (fun _ _ _ h => h) (Or.inr ⟨by rfl, rfl⟩) (by assumption) ?_; try simp only [Act.put, List.setIfInBounds_toArray, List.set_cons_zero, List.set_cons_succ, List.getElem_toArray, List.getElem_cons_zero, List.getElem_cons_succ])
                    (refine wpAnyH_take (i := 27) (v := undef) rfl (by kernel_rfl) (by kernel_rfl) (by kernel_rfl) (fun _ _ _ h => h) (Or.inr ⟨by rfl, rfl⟩) (by assumption) ?_; try simp only [Act.put, List.setIfInBounds_toArray, List.set_cons_zero, List.set_cons_succ, List.getElem_toArray, List.getElem_cons_zero, List.getElem_cons_succ])
                    (refine wpAnyH_take (i := 28) (v := undef) rfl (by kernel_rfl) (by kernel_rfl) (by kernel_rfl) (fun _ _ _ h => h) (Or.inr ⟨by rfl, rfl⟩) (by assumption) ?_; try simp only [Act.put, List.setIfInBounds_toArray, List.set_cons_zero, List.set_cons_succ, List.getElem_toArray, List.getElem_cons_zero, List.getElem_cons_succ])
                    (refine wpAnyH_take (i := 29) (v := ?_) rfl (by kernel_rfl) (by kernel_rfl) (by kernel_rfl) (fun _ _ _ h => h) (Or.inl ⟨by rfl, ?_⟩) (by assumption) ?_; rotate_left 1; (focus (intro w' hSw; (try dsimp only at hSw); go_simp; (try with_reducible rfl); done)); try simp only [Act.put, List.setIfInBounds_toArray, List.set_cons_zero, List.set_cons_succ, List.getElem_toArray, List.getElem_cons_zero, List.getElem_cons_succ])
                    refine wpAnyH_done (by kernel_rfl) ?_ _
                    go_wp2
                    go_ret
                    exact ⟨_, rfl, iff_no (HBAD.out fun h => HF.out (HFI.out.1 h.2.2.1)), below_next HBU.out (Nat.le_refl _) (below_next HBU2.out.drew (Nat.le_refl _) hb1)⟩

              · have hbb : (x1 != (b : Int)) = true := by simpa using hbt
                clear d0 HTD
                refine wp_region_held_drew (S := (fun w' => w'.cell? ⟨w.heap.size, 0, none⟩ = some (.int .i64 k) ∧ w'.cell? ⟨w.heap.size, 1, none⟩ = some (.slice A nw c) ∧ w'.cell? ⟨w.heap.size, 2, none⟩ = some (.slice A' n c') ∧ w'.cell? ⟨W0.heap.size, 0, none⟩ = some (.int .i64 x0) ∧ w'.cell? ⟨W0.heap.size, 1, none⟩ = some (.int .i64 x1) ∧ w'.cell? ⟨W0.heap.size, 2, none⟩ = some (.int .i64 x2) ∧ w'.cell? ⟨W0.heap.size, 3, none⟩ = some (.int .i64 x3) ∧ w'.cell? ⟨W0.heap.size, 4, none⟩ = some (.int .i64 x4))) (by kernel_rfl) ?_ (fun hHeld => ?_)
                · exact ⟨p0, p1, p2, r0, r1, r2, r3, r4⟩
                (refine wpAnyH_take (i := 0) (v := ?_) rfl (by kernel_rfl) (by kernel_rfl) (by kernel_rfl) (fun _ _ _ h => h) (Or.inl ⟨by rfl, ?_⟩) (by assumption) ?_; rotate_left 1; (focus (intro w' hSw; (try dsimp only at hSw); go_simp; (try with_reducible rfl); done)); try simp only [Act.put, List.setIfInBounds_toArray, List.set_cons_zero, List.set_cons_succ, List.getElem_toArray, List.getElem_cons_zero])
                (refine wpAnyH_take (i := 1) (v := ?_) rfl (by kernel_rfl) (by kernel_rfl) (by kernel_rfl) (fun _ _ _ h => h) (Or.inl ⟨by rfl, ?_⟩) (by assumption) ?_; rotate_left 1; (focus (intro w' hSw; (try dsimp only at hSw); go_simp; (try with_reducible rfl); done)); try simp only [Act.put, List.setIfInBounds_toArray, List.set_cons_zero, List.set_cons_succ, List.getElem_toArray, List.getElem_cons_zero, List.getElem_cons_succ])
                (refine wpAnyH_take (i := 2) (v := ?_) rfl (by kernel_rfl) (by kernel_rfl) (by kernel_rfl) (fun _ _ _ h => h) (Or.inl ⟨by rfl, ?_⟩) (by assumption) ?_; rotate_left 1; (focus (intro w' hSw; (try dsimp only at hSw); go_simp; (try with_reducible rfl); done)); try simp only [Act.put, List.setIfInBounds_toArray, List.set_cons_zero, List.set_cons_succ, List.getElem_toArray, List.getElem_cons_zero, List.getElem_cons_succ])
                (refine wpAnyH_take (i := 3) (v := ?_) rfl (by kernel_rfl) (by kernel_rfl) (by kernel_rfl) (fun _ _ _ h => h) (Or.inl ⟨by rfl, ?_⟩) (by assumption) ?_; rotate_left 1; (focus (intro w' hSw; (try dsimp only at hSw); go_simp; (try with_reducible rfl); done)); try simp only [Act.put, List.setIfInBounds_toArray, List.set_cons_zero, List.set_cons_succ, List.getElem_toArray, List.getElem_cons_zero, List.getElem_cons_succ])
                (refine wpAnyH_take (i := 4) (v := ?_) rfl (by kernel_rfl) (by kernel_rfl) (by kernel_rfl) (fun _ _ _ h => h) (Or.inl ⟨by rfl, ?_⟩) (by assumption) ?_; rotate_left 1; (focus (intro w' hSw; (try dsimp only at hSw); go_simp; (try with_reducible rfl); done)); try simp only [Act.put, List.setIfInBounds_toArray, List.set_cons_zero, List.set_cons_succ, List.getElem_toArray, List.getElem_cons_zero, List.getElem_cons_succ])
                (refine wpAnyH_take (i := 5) (v := undef) rfl (by kernel_rfl) (by kernel_rfl) (by kernel_rfl) (fun _ _ _ h => h) (Or.inr ⟨by rfl, rfl⟩) (by assumption) ?_; try simp only [Act.put, List.setIfInBounds_toArray, List.set_cons_zero, List.set_cons_succ, List.getElem_toArray, List.getElem_cons_zero, List.getElem_cons_succ])
                (refine wpAnyH_take (i := 6) (v := undef) rfl (by kernel_rfl) (by kernel_rfl) (by kernel_rfl) (fun _ _ _ h => h) (Or.inr ⟨by rfl, rfl⟩) (by assumption) ?_; try simp only [Act.put, List.setIfInBounds_toArray, List.set_cons_zero, List.set_cons_succ, List.getElem_toArray, List.getElem_cons_zero, List.getElem_cons_succ])
                (refine wpAnyH_take (i := 7) (v := undef) rfl (by kernel_rfl) (by kernel_rfl) (by kernel_rfl) (fun _ _ _ h => h) (Or.inr ⟨by rfl, rfl⟩) (by assumption) ?_; try simp only [Act.put, List.setIfInBounds_toArray, List.set_cons_zero, List.set_cons_succ, List.getElem_toArray, List.getElem_cons_zero, List.getElem_cons_succ])
                (refine wpAnyH_take (i := 8) (v := ?_) rfl (by kernel_rfl) (by kernel_rfl) (by kernel_rfl) (fun _ _ _ h => h) (Or.inl ⟨by rfl, ?_⟩) (by assumption) ?_; rotate_left 1; (focus (intro w' hSw; (try dsimp only at hSw); go_simp; (try with_reducible rfl); done)); try simp only [Act.put, List.setIfInBounds_toArray, List.set_cons_zero, List.set_cons_succ, List.getElem_toArray, List.getElem_cons_zero, List.getElem_cons_succ])
                (refine wpAnyH_take (i := 9) (v := ?_) rfl (by kernel_rfl) (by kernel_rfl) (by kernel_rfl) (fun _ _ _ h => h) (Or.inl ⟨by rfl, ?_⟩) (by assumption) ?_; rotate_left 1; (focus (intro w' hSw; (try dsimp only at hSw); go_simp; (try with_reducible rfl); done)); try simp only [Act.put, List.setIfInBounds_toArray, List.set_cons_zero, List.set_cons_succ, List.getElem_toArray, List.getElem_cons_zero, List.getElem_cons_succ])
                (refine wpAnyH_take (i := 10) (v := undef) rfl (by kernel_rfl) (by kernel_rfl) (by kernel_rfl) (fun _ _ _ h => h) (Or.inr ⟨by rfl, rfl⟩) (by assumption) ?_; try simp only [Act.put, List.setIfInBounds_toArray, List.set_cons_zero, List.set_cons_succ, List.getElem_toArray, List.getElem_cons_zero, List.getElem_cons_succ])
                (refine wpAnyH_take (i := 11) (v := undef) rfl (by kernel_rfl) (by kernel_rfl) (by kernel_rfl) (fun _ _ _ h => h) (Or.inr ⟨by rfl, rfl⟩) (by assumption) ?_; try simp only [Act.put, List.setIfInBounds_toArray, List.set_cons_zero, List.set_cons_succ, List.getElem_toArray, List.getElem_cons_zero, List.getElem_cons_succ])
                (refine wpAnyH_take (i := 12) (v := undef) rfl (by kernel_rfl) (by kernel_rfl) (by kernel_rfl) (fun _ _ _ h => h) (Or.inr ⟨by rfl, rfl⟩) (by assumption) ?_; try simp only [Act.put, List.setIfInBounds_toArray, List.set_cons_zero, List.set_cons_succ, List.getElem_toArray, List.getElem_cons_zero, List.getElem_cons_succ])
                (refine wpAnyH_take (i := 13) (v := undef) rfl (by kernel_rfl) (by kernel_rfl) (by kernel_rfl) (fun _ _ _ h => h) (Or.inr ⟨by rfl, rfl⟩) (by assumption) ?_; try simp only [Act.put, List.setIfInBounds_toArray, List.set_cons_zero, List.set_cons_succ, List.getElem_toArray, List.getElem_cons_zero, List.getElem_cons_succ])
                (refine wpAnyH_take (i := 14) (v := ?_) rfl (by kernel_rfl) (by kernel_rfl) (by kernel_rfl) (fun _ _ _ h => h) (Or.inl ⟨by rfl, ?_⟩) (by assumption) ?_; rotate_left 1; (focus (intro w' hSw; (try dsimp only at hSw); go_simp; (try with_reducible rfl); done)); try simp only [Act.put, List.setIfInBounds_toArray, List.set_cons_zero, List.set_cons_succ, List.getElem_toArray, List.getElem_cons_zero, List.getElem_cons_succ])
                (refine wpAnyH_take (i := 15) (v := ?_) rfl (by kernel_rfl) (by kernel_rfl) (by kernel_rfl) (fun _ _ _ h => h) (Or.inl ⟨by rfl, ?_⟩) (by assumption) ?_; rotate_left 1; (focus (intro w' hSw; (try dsimp only at hSw); go_simp; (try with_reducible rfl); done)); try simp only [Act.put, List.setIfInBounds_toArray, List.set_cons_zero, List.set_cons_succ, List.getElem_toArray, List.getElem_cons_zero, List.getElem_cons_succ])
                (refine wpAnyH_take (i := 16) (v := undef) rfl (by kernel_rfl) (by kernel_rfl) (by kernel_rfl) (fun _ _ _ h => h) (Or.inr ⟨by rfl, rfl⟩) (by assumption) ?_; try simp only [Act.put, List.setIfInBounds_toArray, List.set_cons_zero, List.set_cons_succ, List.getElem_toArray, List.getElem_cons_zero, List.getElem_cons_succ])
                (refine wpAnyH_take (i := 17) (v := undef) rfl (by kernel_rfl) (by kernel_rfl) (by kernel_rfl) (fun _ _ _ h => h) (Or.inr ⟨by rfl, rfl⟩) (by assumption) ?_; try simp only [Act.put, List.setIfInBounds_toArray, List.set_cons_zero, List.set_cons_succ, List.getElem_toArray, List.getElem_cons_zero, List.getElem_cons_succ])
                (refine wpAnyH_take (i := 18) (v := undef) rfl (by kernel_rfl) (by kernel_rfl) (by kernel_rfl) (fun _ _ _ h => h) (Or.inr ⟨by rfl, rfl⟩) (by assumption) ?_; try simp only [Act.put, List.setIfInBounds_toArray, List.set_cons_zero, List.set_cons_succ, List.getElem_toArray, List.getElem_cons_zero, List.getElem_cons_succ])
                (refine wpAnyH_take (i := 19) (v := undef) rfl (by kernel_rfl) (by kernel_rfl) (by kernel_rfl) (fun _ _ _ h => h) (Or.inr ⟨by rfl, rfl⟩) (by assumption) ?_; try simp only [Act.put, List.setIfInBounds_toArray, List.set_cons_zero, List.set_cons_succ, List.getElem_toArray, List.getElem_cons_zero, List.getElem_cons_succ])
                (refine wpAnyH_take (i := 20) (v := undef) rfl (by kernel_rfl) (by kernel_rfl) (by kernel_rfl) (fun _ _ _ h => h) (Or.inr ⟨by rfl, rfl⟩) (by assumption) ?_; try simp only [Act.put, List.setIfInBounds_toArray, List.set_cons_zero, List.set_cons_succ, List.getElem_toArray, List.getElem_cons_zero, List.getElem_cons_succ])
                (refine wpAnyH_take (i := 21) (v := undef) rfl (by kernel_rfl) (by kernel_rfl) (by kernel_rfl) (fun _ _ _ h => h) (Or.inr ⟨by rfl, rfl⟩) (by assumption) ?_; try simp only [Act.put, List.setIfInBounds_toArray, List.set_cons_zero, List.set_cons_succ, List.getElem_toArray, List.getElem_cons_zero, List.getElem_cons_succ])
                (refine wpAnyH_take (i := 22) (v := undef) rfl (by kernel_rfl) (by kernel_rfl) (by kernel_rfl) (fun _ _ _ h => h) (Or.inr ⟨by rfl, rfl⟩) (by assumption) ?_; try simp only [Act.put, List.setIfInBounds_toArray, List.set_cons_zero, List.set_cons_succ, List.getElem_toArray, List.getElem_cons_zero, List.getElem_cons_succ])
                (refine wpAnyH_take (i := 23) (v := undef) rfl (by kernel_rfl) (by kernel_rfl) (by kernel_rfl) (fun _ _ _ h => h) (Or.inr ⟨by rfl, rfl⟩) (by assumption) ?_; try simp only [Act.put, List.setIfInBounds_toArray, List.set_cons_zero, List.set_cons_succ, List.getElem_toArray, List.getElem_cons_zero, List.getElem_cons_succ])
                (refine wpAnyH_take (i := 24) (v := undef) rfl (by kernel_rfl) (by kernel_rfl) (by kernel_rfl) (fun _ _ _ h => h) (Or.inr ⟨by rfl, rfl⟩) (by assumption) ?_; try simp only [Act.put, List.setIfInBounds_toArray, List.set_cons_zero, List.set_cons_succ, List.getElem_toArray, List.getElem_cons_zero, List.getElem_cons_succ])
                (refine wpAnyH_take (i := 25) (v := undef) rfl (by kernel_rfl) (by kernel_rfl) (by kernel_rfl) (fun _ _ _ h => h) (Or.inr ⟨by rfl, rfl⟩) (by assumption) ?_; try simp only [Act.put, List.setIfInBounds_toArray, List.set_cons_zero, List.set_cons_succ, List.getElem_toArray, List.getElem_cons_zero, List.getElem_cons_succ])
                (refine wpAnyH_take (i := 26) (v := undef) rfl (by kernel_rfl) (by kernel_rfl) (by kernel_rfl) (fun _ _ _ h => h) (Or.inr ⟨by rfl, rfl⟩) (by assumption) ?_; try simp only [Act.put, List.setIfInBounds_toArray, List.set_cons_zero, List.set_cons_succ, List.getElem_toArray, List.getElem_cons_zero, List.getElem_cons_succ])
                (refine wpAnyH_take (i := 27) (v := undef) rfl (by kernel_rfl) (by kernel_rfl) (by kernel_rfl) (fun _ _ _ h => h) (Or.inr ⟨by rfl, rfl⟩) (by assumption) ?_; try simp only [Act.put, List.setIfInBounds_toArray, List.set_cons_zero, List.set_cons_succ, List.getElem_toArray, List.getElem_cons_zero, List.getElem_cons_succ])
                (refine wpAnyH_take (i := 28) (v := undef) rfl (by kernel_rfl) (by kernel_rfl) (by kernel_rfl) (fun _ _ _ h => h) (Or.inr ⟨by rfl, rfl⟩) (by assumption) ?_; try simp only [Act.put, List.setIfInBounds_toArray, List.set_cons_zero, List.set_cons_succ, List.getElem_toArray, List.getElem_cons_zero, List.getElem_cons_succ])
                (refine wpAnyH_take (i := 29) (v := ?_) rfl (by kernel_rfl) (by kernel_rfl) (by kernel_rfl) (fun _ _ _ h => h) (Or.inl ⟨by rfl, ?_⟩) (by assumption) ?_; rotate_left 1; (focus (intro w' hSw; (try dsimp only at hSw); go_simp; (try with_reducible rfl); done)); try simp only [Act.put, List.setIfInBounds_toArray, List.set_cons_zero, List.set_cons_succ, List.getElem_toArray, List.getElem_cons_zero, List.getElem_cons_succ])
                refine wpAnyH_done (by kernel_rfl) ?_ _
                go_wp2
                go_ret
                exact ⟨_, rfl, iff_no (HBAD.out fun h => hbt (by rw [HX1.out]; exact h.1)), below_next HBU.out (Nat.le_refl _) HBU2.out.drew⟩
            · have htl2 : ¬ (t : Int) < q.length := by omega
              obtain rfl : t = q.length := by omega
              have HG3 := Lib.hid (good_row HG2.out HQE.out)
              have HO3 : Hid (wr.ownsRow U.heap.size 3 1 u6 (preQ Q (b + 1) 0).length (seqC (preQ Q (b + 1) 0))) := by rw [← preQ_row HQE.out]; exact HO2.out
              have HW3 := Lib.hid (show ownS k (preQ Q b q.length) = ownS k (preQ Q (b + 1) 0) by rw [preQ_row HQE.out])
              go_wp2
              exact ⟨⟨b + 1, by omega, by go_num, by rw [HW3.out], HO3.out, HG3.out, HB2.out⟩, by simp [intOf]; omega⟩
        · have hlt2 : ¬ (b : Int) < Q.length := by omega
          have BSR := BS.out.next HB.out
          have p0 := BSR.cell 0
          have p1 := BSR.cell 1
          have p2 := BSR.cell 2
          simp at p0 p1 p2
          have zs : w.heap.size < wr.heap.size := BSR.lt
          obtain rfl : b = Q.length := by omega
          obtain ⟨ow0, how0⟩ : ∃ x, x = ownS k (preQ Q Q.length 0) := ⟨_, rfl⟩
          have HOW0 := Lib.hid (show ow0 = ownS k Q.flatten by rw [how0, preQ_end])
          rw [← how0]
          have HSI := Lib.hid (snd_iff HV.out (good_end HG.out (by omega) (by omega)))
          clear how0 BSR
          go_wp2_with fail
          go_loopw [13, 94] (fun us i wr' => ∃ t : Nat, t ≤ n ∧ us = .int .i64 (cntU F t : Nat) ∧ i = .int .i64 t ∧ Below U.heap.size U wr') (fun _ i _ => n - (intOf i).toNat)
          case atStart => exact ⟨0, by omega, rfl, rfl, HB.out⟩
          case round =>
            obtain ⟨t, ht, rfl, rfl, hb4⟩ := hrel
            have HB4 := Lib.hid hb4
            clear hb4 p0 p1 p2
            obtain ⟨cn, hcn⟩ : ∃ x, x = cntU F t := ⟨_, rfl⟩
            have hcl := cntU_le F t
            rw [← hcn] at hcl ⊢
            by_cases htn : t < n
            · have htn2 : 0 ≤ (t : Int) ∧ (t : Int) < n := by omega
              obtain ⟨bt, ot, rfl, hbb⟩ := HT.out.base_ (by omega)
              obtain ⟨_, c0, c1, c2⟩ := (HT.out.next HB4.out).cells t htn
              have bz : bt < wr.heap.size := cell_lt c0
              obtain ⟨x, hx⟩ : ∃ x, x = (F t).ow := ⟨_, rfl⟩
              rw [← hx] at c0
              have HC1 := Lib.hid (show cntU F (t + 1) = cn + (if x = -1 then 0 else 1) by rw [hcn, hx]; rfl)
              have HBN : Hid (Below U.heap.size U (wr.alloc (.cells #[.int .i64 x, .int .i64 (F t).st, .int .i64 (F t).nx] 69))) := HB4.out.alloc HB4.out.size _
              clear hx hcn hbb
              by_cases hx1 : x = -1
              · subst hx1
                go_wp2
                exact ⟨⟨t + 1, by omega, by rw [HC1.out]; simp, by go_num, HBN.out⟩, by simp [intOf]; omega⟩
              · have hxb : (x != -1) = true := by simpa using hx1
                have HX1 := Lib.hid hx1
                clear hx1
                go_wp2
                exact ⟨⟨t + 1, by omega, by rw [HC1.out, if_neg HX1.out]; go_num, by go_num, HBN.out⟩, by simp [intOf]; omega⟩
            · have htn2 : ¬ (t : Int) < n := by omega
              obtain rfl : n = t := by omega
              have HR := Lib.hid (show decide (cn = ow0) = true ↔ SndP k n nw F Q by rw [HSI.out, decide_eq_true_iff, hcn, HOW0.out])
              by_cases hce : cn = ow0
              · have hceb : ((cn : Int) == (ow0 : Int)) = true := by simp; omega
                have HY := Lib.hid (HR.out.1 (by simpa using hce))
                clear hcn hce
                go_wp2
                go_ret
                exact ⟨_, rfl, iff_yes HY.out, below_next HBU.out (Nat.le_refl _) HB4.out⟩
              · have hceb : ((cn : Int) == (ow0 : Int)) = false := by simp; omega
                have HY := Lib.hid (show ¬ SndP k n nw F Q from fun h => hce (by simpa using HR.out.2 h))
                clear hcn hce
                go_wp2
                go_ret
                exact ⟨_, rfl, iff_no HY.out, below_next HBU.out (Nat.le_refl _) HB4.out⟩

set_option maxHeartbeats 2000000 in
theorem refBelt_any (s : Int) (A A' : Option Addr) (nw c n c' : Nat) (wd : Nat → Int) (F : Nat → Fr) (Al : Option Addr) (cl : Nat) (Q : List (List IncR)) (w : World) (hA : Arr w w.heap.size A nw c wd) (hT : Tab w w.heap.size A' n c' F)
    (hQ : QArr w (Lt w.heap.size) Al cl Q) (htot : Q.flatten.length ≤ 400) :
    Calls Try.prog 17 #[.agg #[.int .i64 s, .slice A nw c, .slice A' n c'], .slice Al Q.length cl] w (IffOf (ValQ s nw wd n F Q) w) := by
  obtain ⟨U, hU⟩ : ∃ U, U = w.alloc (.cells #[.int .i64 s, .slice A nw c, .slice A' n c'] 25) := ⟨_, rfl⟩
  have BS := Lib.hid (show Blk U w.heap.size 25 #[.int .i64 s, .slice A nw c, .slice A' n c'] by rw [hU]; exact Blk.new _ _ _)
  have HBU : Hid (Below w.heap.size w U) := by rw [hU]; exact (Below.refl _ _).alloc (Nat.le_refl _) _
  have HU := Lib.hid hU
  have HA := Lib.hid (hA.next HBU.out)
  have HT := Lib.hid (hT.next HBU.out)
  have HQ := Lib.hid (hQ.next HBU.out)
  have p0 := BS.out.cell 0
  have p1 := BS.out.cell 1
  have p2 := BS.out.cell 2
  simp at p0 p1 p2
  clear hA hT hQ hU
  go_enter Try.func17, Try.ntmps17
  go_wp2_with fail
  rw [← HU.out]
  refine (refValid_any s A A' nw c n c' wd F U HA.out HT.out).mono ?_
  rintro e U1 ⟨rfl, hb1⟩
  have BS1 := BS.out.next hb1
  have HB1 : Hid (Below w.heap.size w U1) := below_next HBU.out (Nat.le_refl _) hb1
  have HT1 := Lib.hid (HT.out.next hb1)
  have HQ1 := Lib.hid (HQ.out.next hb1)
  clear p0 p1 p2 hb1 HA HT HQ
  cases hv : validB s nw wd n F with
  | false =>
    have HV := Lib.hid hv
    clear hv BS1
    go_wp2
    go_ret
    exact ⟨_, rfl, iff_no (fun h => by have := h.1; rw [HV.out] at this; cases this), HB1.out⟩
  | true =>
    have HV := Lib.hid hv
    have hvp := validB_of hv
    obtain ⟨k, rfl, hk3, hk8⟩ := valid_nat hvp
    have hn64' := (nfB_yes hvp.2.1).2
    have hn64 : n ≤ 64 := by omega
    have hnw := hvp.2.2.1
    rw [Int.toNat_natCast] at hnw
    have hpl := prod_le hn64 hk8
    rw [← hnw] at hpl
    have HFV := Lib.hid hvp.fv
    have p0 := BS1.cell 0
    have p1 := BS1.cell 1
    have p2 := BS1.cell 2
    simp at p0 p1 p2
    have zs : w.heap.size < U1.heap.size := BS1.lt
    clear hv hvp BS1 hnw
    go_wp2_with fail
    refine (sound_any k A A' nw c n c' F Al cl Q U1 HT1.out HQ1.out (by omega) HFV.out hk8 (by omega) htot).mono ?_
    rintro e U2 ⟨r, rfl, hr, hb2⟩
    have HR := Lib.hid hr
    have HB2 : Hid (Below w.heap.size w U2) := below_next HB1.out (Nat.le_refl _) hb2
    clear hr hb2
    go_wp2
    go_ret
    exact ⟨r, by simp, HR.out.trans ⟨fun h => ⟨HV.out, by rw [Int.toNat_natCast]; exact h⟩, fun h => by have := h.2; rw [Int.toNat_natCast] at this; exact this⟩, HB2.out⟩
end Go.Proofs.Ytkknmphigpcjjaa
