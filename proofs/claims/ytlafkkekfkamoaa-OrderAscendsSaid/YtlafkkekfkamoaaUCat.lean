/-
  slices.Grow and slices.Concat of increments; the developers' All and First.
-/
import Derived.Test.YtlafkkekfkamoaaUAll
import Derived.Test.YtlafkkekfkamoaaQfnd
import Derived.Lib.AppendZeros
namespace Go.Proofs.Ytlafkkekfkamoaa
open Go.RowKit
set_option maxRecDepth 100000
set_option linter.unusedVariables false

/-- The zero increment, as cells. -/
def zI : Value := .agg #[.int .i64 0, .int .i64 0, .int .i64 0, .int .i64 0, .int .i64 0]
theorem growI_any (N : Nat) (hN : N ≤ 4096) (w : World) :
    Calls Try.prog 37 #[.slice none 0 0, .int .i64 N] w fun e w' => ∃ A c, e = .returned (.slice A 0 c) ∧ w'.ownsRow w.heap.size 24 5 (.slice A 0 c) 0 [] ∧ Below w.heap.size w w' := by
  obtain ⟨i0, hi0, hz0, hz1, hz2⟩ := info_parts inc_info
  by_cases h0 : N = 0
  · subst h0
    go_enter Try.func37, Try.ntmps37
    go_wp2
    go_ret
    exact ⟨none, 0, rfl, World.ownsRow_nil _ _ _ _, Below.refl _ _⟩
  · have hpos : 0 < N := by omega
    have hG := grownCap_ge w N 0 24
    have hG2 := grownCap_le_maxLen w N 0 24 (by simp only [maxLen]; omega)
    have hrz : ∀ ty, (Builtin.append_ #[25, 3] ty #[.slice none 0 0, .int .i64 (N : Int)]).run Try.prog w = _ := fun ty =>
      Lib.run_append_nil_zeros w 25 3 ty 24 i0 zI .i64 .i64 Try.underlying25 Try.underlying3 hi0 hz0 N hpos (by rw [hz1]; decide) (by omega) (by rw [hz2]; omega)
    obtain ⟨G, hGG⟩ : ∃ G, G = grownCap w N 0 24 := ⟨_, rfl⟩
    rw [← hGG] at hG hG2 hrz
    have hG3 : G ≤ 9223372036854775807 := by simp only [maxLen] at hG2; omega
    obtain ⟨V, hV⟩ : ∃ V, V = w.drew.alloc (.cells (Builtin.zeroCells zI.cells N ++ Builtin.zeroCells zI.cells (G - N)) 24) := ⟨_, rfl⟩
    rw [← hV] at hrz
    have hzs : zI.cells.size = 5 := rfl
    have hrow : V.ownsRow w.heap.size 24 5 (.slice (some ⟨w.heap.size, 0, none⟩) 0 G) 0 [] := by
      rw [hV]
      refine ⟨rfl, .inr ⟨w.heap.size, G, _, rfl, Nat.le_refl _, heap_alloc_new w.drew _, by omega, hG2, ?_, by simp⟩⟩
      simp only [Array.size_append, size_zeroCells, hzs]
      omega
    have HR := Lib.hid hrow
    have HB := Lib.hid (show Below w.heap.size w V by rw [hV]; exact ((Below.refl w.heap.size w).drew).alloc (Nat.le_refl _) _)
    clear hrow hV hGG hG2 hzs
    go_enter Try.func37, Try.ntmps37
    go_wp2_with (at_builtin; refine Lib.wpList_append_run _ rfl _ _ _ _ rfl _ _ rfl rfl _ _ (hrz _) ?_)
    all_goals
      go_ret
      exact ⟨_, _, rfl, HR.out, HB.out⟩

/-- A row of increments that may be read behind the call. -/
def AllOf (F : List IncR) (w : World) (e : Ending) (w' : World) : Prop := ∃ A c, e = .returned (.slice A F.length c) ∧ LArr w' (Lt w'.heap.size) A c F ∧ Below w.heap.size w w'

set_option maxHeartbeats 4000000 in
theorem concatI_any (A : Option Addr) (c : Nat) (Q : List (List IncR)) (w : World) (hQ : QArr w (Lt w.heap.size) A c Q) (hf : Q.flatten.length ≤ 4096) :
    Calls Try.prog 28 #[.slice A Q.length c] w (AllOf Q.flatten w) := by
  obtain ⟨i0, hi0, hz0, hz1, hz2⟩ := info_parts inc_info
  have HQ := Lib.hid hQ
  have hm := hQ.2.1
  have hm' := hQ.1
  simp only [maxLen] at hm
  clear hQ
  obtain ⟨F, hF⟩ : ∃ F, F = Q.flatten := ⟨_, rfl⟩
  rw [← hF] at hf ⊢
  have HFE := Lib.hid hF
  clear hF
  go_enter Try.func28, Try.ntmps28
  go_wp2_with fail
  go_loopw [3, 5, 11] (fun sz _ i wr => ∃ (t : Nat) (z : Nat), t ≤ Q.length ∧ i = .int .i64 t ∧ sz = .int .i64 z ∧ Hid (z = (Q.take t).flatten.length) ∧ wr = w) (fun _ _ i _ => Q.length - (intOf i).toNat)
  case atStart => exact ⟨0, 0, by omega, rfl, rfl, rfl, rfl⟩
  case round =>
    obtain ⟨t, z, ht, rfl, rfl, hz, rfl⟩ := hrel
    by_cases hlt : t < Q.length
    · have hlt2 : 0 ≤ (t : Int) ∧ (t : Int) < Q.length := by omega
      obtain ⟨q, hq⟩ := nth_of hlt
      obtain ⟨b, o, Ai, ci, rfl, hP, _, c0, hL⟩ := HQ.out.at_ hq
      have hfl := flat_len Q (t + 1)
      have hn := flat_next hq
      rw [hn, List.length_append, ← hz.out, ← HFE.out] at hfl
      have hz2 : Hid (z + q.length = (Q.take (t + 1)).flatten.length) := by
        unfold Hid
        rw [hn, List.length_append, ← hz.out]
      obtain ⟨m, hmz⟩ : ∃ m, m = z + q.length := ⟨_, rfl⟩
      rw [← hmz] at hz2
      have hs : (z : Int) + q.length = (m : Int) := by omega
      have hneg : ¬ ((m : Int) < 0) := by omega
      have hm1 : (m : Int) ≤ 4096 := by omega
      clear hq hP hL hn hfl hmz hf
      go_wp2_with fail
      exact ⟨⟨t + 1, m, by omega, by go_num, rfl, hz2, by trivial⟩, by simp [intOf]; omega⟩
    · have hlt2 : ¬ (t : Int) < Q.length := by omega
      have htl : t = Q.length := by omega
      rw [htl, List.take_length, ← HFE.out] at hz
      obtain ⟨W0, rfl⟩ : ∃ W0, W0 = wr := ⟨_, rfl⟩
      have hz4 : z ≤ 4096 := by rw [hz.out]; exact hf
      clear htl hlt
      go_wp2_with fail
      refine (growI_any z hz4 W0).mono ?_
      rintro e W1 ⟨A3, c3, rfl, hown1, hb1⟩
      have HO1 := Lib.hid hown1
      have HB1 := Lib.hid hb1
      clear hown1 hb1
      go_wp2_with fail
      go_loopw [6, 8, 27] (fun v _ i wr => ∃ t : Nat, t ≤ Q.length ∧ i = .int .i64 t ∧ wr.ownsRow W0.heap.size 24 5 v (Q.take t).flatten.length (incCells (Q.take t).flatten) ∧ Below W0.heap.size W0 wr) (fun _ _ i _ => Q.length - (intOf i).toNat)
      case atStart => exact ⟨0, by omega, rfl, HO1.out, HB1.out⟩
      case round =>
        obtain ⟨R, rfl⟩ : ∃ R, R = wr := ⟨_, rfl⟩
        obtain ⟨t, ht, rfl, hr, hb⟩ := hrel
        have HR := Lib.hid hr
        have HB := Lib.hid hb
        have HQ2 := Lib.hid (HQ.out.below (w' := R) hb)
        clear hr hb
        by_cases hlt : t < Q.length
        · have hlt2 : 0 ≤ (t : Int) ∧ (t : Int) < Q.length := by omega
          obtain ⟨q, hq⟩ := nth_of hlt
          obtain ⟨b, o, Ai, ci, rfl, hP, _, c0, hL⟩ := HQ2.out.at_ hq
          have HL := Lib.hid hL
          have HN := Lib.hid (flat_next hq)
          have hfl := flat_len Q (t + 1)
          rw [HN.out, List.length_append, ← HFE.out] at hfl
          obtain ⟨n0, hn0⟩ : ∃ n, n = (Q.take t).flatten.length := ⟨_, rfl⟩
          rw [← hn0] at HR hfl
          have HN0 := Lib.hid hn0
          clear hq hP hL hn0
          rcases Ai with _ | ad
          · have hc := HL.out.2.2.1 rfl
            have hl0 := HL.out.1
            have hI : q = [] := List.length_eq_zero_iff.1 (by omega)
            subst hI hc
            clear hl0
            go_wp2_with (at_builtin; refine wpList_append_own_none rfl _ _ 25 rfl W0.heap.size 24 i0 5 Try.underlying25 hi0 _ n0 _ rfl HR.out rfl ?_)
            go_wp2
            refine ⟨⟨t + 1, by omega, by go_num, ?_, HB.out⟩, by simp [intOf]; omega⟩
            rw [HN.out, List.append_nil, ← HN0.out]
            exact HR.out
          · have hcs : ∀ (j : Nat) (u : Value), (incCells q)[j]? = some u → R.cell? (ad.add j) = some u := by
              intro j u hu
              have hj := get_lt hu
              rw [incCells_length] at hj
              obtain ⟨b, o, e, _⟩ := HL.out.2.2.2 (by omega)
              injection e with e
              subst e
              exact HL.out.cells j u hu
            have HC := Lib.hid hcs
            have HLN := Lib.hid (incCells_length q)
            have HM1 := Lib.hid (show n0 + q.length ≤ maxLen by simp only [maxLen]; omega)
            have HM2 := Lib.hid (show (n0 + q.length) * 40 ≤ 140737488355328 by omega)
            have HBW := Lib.hid HB.out.size
            clear hcs
            go_wp2_with (at_builtin; refine wpList_append_own _ rfl _ _ 25 rfl W0.heap.size 24 i0 _ 5 40 Try.underlying25 hi0 hz0 hz1 hz2 rfl (by decide) _ n0 _ rfl HR.out ad q.length ci (incCells q) rfl HLN.out HC.out (incCells_one q) HM1.out HM2.out HBW.out ?_)
            intro v1 w1 hown hg _
            have HO := Lib.hid hown
            have HB1 : Hid (Below W0.heap.size W0 w1) := Lib.hid (HB.out.grown hg HBW.out (row_blk HR.out))
            clear hg hown
            go_wp2
            refine ⟨⟨t + 1, by omega, by go_num, ?_, HB1.out⟩, by simp [intOf]; omega⟩
            rw [HN.out, List.length_append, incCells_append, ← HN0.out]
            exact HO.out
        · have hlt2 : ¬ (t : Int) < Q.length := by omega
          have htl : t = Q.length := by omega
          rw [htl, List.take_length, ← HFE.out] at HR
          clear htl
          obtain ⟨A5, c5, rfl, hl5⟩ := larr_of HR.out
          have HL5 := Lib.hid hl5.lt
          clear hl5 HR
          go_wp2
          go_ret
          exact ⟨_, _, rfl, HL5.out, HB.out⟩
theorem allO_any (A : Option Addr) (c : Nat) (Q : List (List IncR)) (w : World) (hQ : QArr w (Lt w.heap.size) A c Q) (hf : Q.flatten.length ≤ 4096) : Calls Try.prog 21 #[.slice A Q.length c] w (AllOf Q.flatten w) := by
  have hc := concatI_any A c Q w hQ hf
  generalize Q.flatten = F at hc ⊢
  go_enter Try.func21, Try.ntmps21
  go_wp2_with fail
  refine hc.mono ?_
  rintro e w' ⟨B, d, rfl, hl, hb⟩
  have HL := Lib.hid hl
  have HB := Lib.hid hb
  clear hl hb hc
  go_wp2_with fail
  go_ret
  exact ⟨_, _, rfl, HL.out, HB.out⟩

theorem alloc_put5 {a w : World} {B : Nat} (h : Below B a w) (o : Obj) (v0 v1 v2 v3 v4 : Value) (hB : B ≤ a.heap.size := by exact Nat.le_refl _) : Below B a ((((((w.setCell ⟨B, 0, none⟩ v0).setCell ⟨B, 1, none⟩ v1).setCell ⟨B, 2, none⟩ v2).setCell ⟨B, 3, none⟩ v3).setCell ⟨B, 4, none⟩ v4).alloc o) := by
  have h2 := below_put5 h (Nat.le_refl _) v0 v1 v2 v3 v4
  exact h2.alloc (Nat.le_trans hB h2.size) _
theorem put5_cell {w : World} {g : Nat} {t : TypeId} {z0 z1 z2 z3 z4 : Value} (h : Blk w g t #[z0, z1, z2, z3, z4]) (o : Obj) (v0 v1 v2 v3 v4 : Value) (k : Nat) :
    ((((((w.setCell ⟨g, 0, none⟩ v0).setCell ⟨g, 1, none⟩ v1).setCell ⟨g, 2, none⟩ v2).setCell ⟨g, 3, none⟩ v3).setCell ⟨g, 4, none⟩ v4).alloc o).cell? ⟨g, k, none⟩ = #[v0, v1, v2, v3, v4][k]? := by
  have h2 := ((((((h.set_ 0 v0).set_ 1 v1).set_ 2 v2).set_ 3 v3).set_ 4 v4).alloc o).cell k
  simpa using h2
theorem head_flat {Q : List (List IncR)} {t : Nat} {q : List IncR} {i : IncR} (h : (Q.take t).flatten = []) (hq : Q[t]? = some q) (hi : q.head? = some i) : Q.flatten.head? = some i := by
  have h1 := congrArg List.flatten (List.take_append_drop (t + 1) Q)
  rw [List.flatten_append, flat_next hq, h, List.nil_append] at h1
  rw [← h1, List.head?_append, hi]
  rfl
set_option maxHeartbeats 2000000 in
theorem firstO_any (A : Option Addr) (c : Nat) (Q : List (List IncR)) (w : World) (hQ : QArr w (Lt w.heap.size) A c Q) (hf : Q.flatten.length ≤ 4096) : Calls Try.prog 18 #[.slice A Q.length c] w (GivesI Q.flatten.head? w) := by
  obtain ⟨U, hU⟩ : ∃ U, U = w.alloc (.cells #[.int .i64 0, .int .i64 0, .int .i64 0, .int .i64 0, .int .i64 0] 24) := ⟨_, rfl⟩
  have BI := (show Blk U w.heap.size 24 #[.int .i64 0, .int .i64 0, .int .i64 0, .int .i64 0, .int .i64 0] by rw [hU]; exact Blk.new _ _ _)
  have HBU : Hid (Below w.heap.size w U) := by rw [hU]; exact (Below.refl _ _).alloc (Nat.le_refl _) _
  have HQ := Lib.hid (hQ.next HBU.out)
  have HU := Lib.hid hU
  have HBI := Lib.hid BI
  have hm := hQ.2.1
  have hm' := hQ.1
  simp only [maxLen] at hm
  clear hQ hU BI
  unfold GivesI
  obtain ⟨O, hO⟩ : ∃ O, O = Q.flatten.head? := ⟨_, rfl⟩
  rw [← hO]
  have HO := Lib.hid hO
  clear hO
  go_enter Try.func18, Try.ntmps18
  go_wp2_with fail
  rw [← HU.out]
  go_loopw [4, 5, 6, 9] (fun _ _ _ i wr => ∃ t : Nat, t ≤ Q.length ∧ i = .int .i64 t ∧ Hid ((Q.take t).flatten = []) ∧ Below U.heap.size U wr) (fun _ _ _ i _ => Q.length - (intOf i).toNat)
  case atStart => exact ⟨0, by omega, rfl, by simp [Hid], Below.refl _ _⟩
  case round =>
    obtain ⟨t, ht, rfl, hno, hb⟩ := hrel
    obtain ⟨R, rfl⟩ : ∃ R, R = wr := ⟨_, rfl⟩
    have HB := Lib.hid hb
    have HQ2 := Lib.hid (HQ.out.next hb)
    have BI := HBI.out.next hb
    have HBI2 := Lib.hid BI
    have f0 := BI.frozen 0
    have f1 := BI.frozen 1
    have f2 := BI.frozen 2
    have f3 := BI.frozen 3
    have f4 := BI.frozen 4
    have p0 := BI.cell 0
    have p1 := BI.cell 1
    have p2 := BI.cell 2
    have p3 := BI.cell 3
    have p4 := BI.cell 4
    simp at p0 p1 p2 p3 p4
    have zi : w.heap.size < R.heap.size := BI.lt
    by_cases hlt : t < Q.length
    · have hlt2 : 0 ≤ (t : Int) ∧ (t : Int) < Q.length := by omega
      obtain ⟨q, hq⟩ := nth_of hlt
      have HV := Lib.hid (show oldV Q t = q.head? by simp [oldV, hq])
      have HN := Lib.hid (flat_next hq)
      have HQQ := Lib.hid hq
      clear hb hq BI
      go_wp2_with fail
      refine (oldest_any A c Q t R HQ2.out hlt).mono ?_
      unfold GivesI
      rw [HV.out]
      rcases hqh : q.head? with _ | i
      · have hq0 : q = [] := by cases q with
          | nil => rfl
          | cons a l => cases hqh
        subst hq0
        simp only [Option.getD_none, Option.isSome_none, inc0, IncR.v]
        rintro e V ⟨rfl, hbv⟩
        have HV2 := Lib.hid hbv
        have BI := HBI2.out.next hbv
        have g0 := BI.frozen 0
        have g1 := BI.frozen 1
        have g2 := BI.frozen 2
        have g3 := BI.frozen 3
        have g4 := BI.frozen 4
        have r0 := BI.cell 0
        have r1 := BI.cell 1
        have r2 := BI.cell 2
        have r3 := BI.cell 3
        have r4 := BI.cell 4
        simp at r0 r1 r2 r3 r4
        have zv : w.heap.size < V.heap.size := BI.lt
        clear f0 f1 f2 f3 f4 p0 p1 p2 p3 p4 hbv BI
        have HX : Hid ((Q.take (t + 1)).flatten = []) := by unfold Hid; rw [HN.out, hno.out]; rfl
        have HB3 := Lib.hid (below_next HB.out (Nat.le_refl _) HV2.out)
        clear hqh hno
        go_wp2_with fail
        refine ⟨⟨t + 1, by omega, by go_num, HX, HB3.out.alloc HB3.out.size _⟩, by simp [intOf]; omega⟩
      · have HX := Lib.hid (show O = some i from HO.out.trans (head_flat hno.out HQQ.out hqh))
        simp only [Option.getD_some, Option.isSome_some, IncR.v]
        rintro e V ⟨rfl, hbv⟩
        have HV2 := Lib.hid hbv
        have BI := HBI2.out.next hbv
        have g0 := BI.frozen 0
        have g1 := BI.frozen 1
        have g2 := BI.frozen 2
        have g3 := BI.frozen 3
        have g4 := BI.frozen 4
        have r0 := BI.cell 0
        have r1 := BI.cell 1
        have r2 := BI.cell 2
        have r3 := BI.cell 3
        have r4 := BI.cell 4
        simp at r0 r1 r2 r3 r4
        have zv : w.heap.size < V.heap.size := BI.lt
        have HBV := Lib.hid BI
        clear f0 f1 f2 f3 f4 p0 p1 p2 p3 p4 hbv BI
        clear hqh hno
        have HB3 := Lib.hid (below_next HBU.out (Nat.le_refl _) (below_next HB.out (Nat.le_refl _) HV2.out))
        go_wp2_with fail
        have hs := fun o k => put5_cell HBV.out o (.int .i64 i.sq) (.int .i64 i.bt) (.int .i64 i.fi) (.int .i64 i.la) (.int .i64 i.wo) k
        have s0 := fun o => hs o 0
        have s1 := fun o => hs o 1
        have s2 := fun o => hs o 2
        have s3 := fun o => hs o 3
        have s4 := fun o => hs o 4
        simp only [List.getElem?_toArray, List.getElem?_cons_zero, List.getElem?_cons_succ] at s0 s1 s2 s3 s4
        exact bodyPost_ret (v := .tuple #[i.v, .bool true]) (by simp [results, Try.results18, go_sem, IncR.v, s0, s1, s2, s3, s4]) rfl ⟨by rw [HX.out]; rfl, alloc_put5 HB3.out _ _ _ _ _ _⟩
    · have hlt2 : ¬ (t : Int) < Q.length := by omega
      have htl : t = Q.length := by omega
      have HX : Hid (O = none) := by unfold Hid; rw [HO.out]; have := hno.out; rw [htl, List.take_length] at this; rw [this]; rfl
      have HB3 := Lib.hid (below_next HBU.out (Nat.le_refl _) hb)
      clear htl hno hb BI
      go_wp2_with fail
      exact bodyPost_ret (v := .tuple #[inc0.v, .bool false]) (by simp [results, Try.results18, go_sem, inc0, IncR.v, p0, p1, p2, p3, p4]) rfl ⟨by rw [HX.out]; rfl, below_put5 HB3.out (Nat.le_refl _) _ _ _ _ _⟩
end Go.Proofs.Ytlafkkekfkamoaa
