/-
  The reference's Youngest, Add and Replace.
-/
import Derived.Test.YtmhbbjbbckdlbaaDoorQAll
namespace Go.Proofs.YtmhbbjbbckdlbaaDoor
open Go.RowKit
set_option maxRecDepth 100000
set_option linter.unusedVariables false

set_option maxHeartbeats 1000000 in
theorem refYoungest_any (A : Option Addr) (c : Nat) (Q : List (List IncR)) (b : Nat) (w : World) (hQ : QArr w (Lt w.heap.size) A c Q) (hb : b < Q.length) :
    Calls Tryd.prog 16 #[.slice A Q.length c, .int .i64 b] w (GivesI (youV Q b) w) := by
  obtain ⟨q, hq⟩ := nth_of hb
  obtain ⟨U, hU⟩ : ∃ U, U = w.alloc (.cells #[.int .i64 0, .int .i64 0, .int .i64 0, .int .i64 0, .int .i64 0] 38) := ⟨_, rfl⟩
  have BI := (show Blk U w.heap.size 38 #[.int .i64 0, .int .i64 0, .int .i64 0, .int .i64 0, .int .i64 0] by rw [hU]; exact Blk.new _ _ _)
  have HBU : Hid (Below w.heap.size w U) := by rw [hU]; exact (Below.refl _ _).alloc (Nat.le_refl _) _
  have HQ := Lib.hid (hQ.next HBU.out)
  have HU := Lib.hid hU
  have hbl : isBQ Q.length b = true := by simp [isBQ]; omega
  have HBL := Lib.hid hbl
  have hb2 : 0 ≤ (b : Int) ∧ (b : Int) < Q.length := by omega
  have f0 := BI.frozen 0
  have f1 := BI.frozen 1
  have f2 := BI.frozen 2
  have f3 := BI.frozen 3
  have f4 := BI.frozen 4
  have p0 := BI.cell 0
  have p1 := BI.cell 1
  have p2 := BI.cell 2
  have p3 := BI.cell 3
  have p4 := BI.cell 4
  simp at p0 p1 p2 p3 p4
  have zi : w.heap.size < U.heap.size := BI.lt
  obtain ⟨b1, o, A', c', rfl, hP, hbz, c0, hL⟩ := HQ.out.at_ hq
  have hm := hL.2.1
  have hm' := hL.1
  simp only [maxLen] at hm
  have HL := Lib.hid hL
  have HV := Lib.hid (show youV Q b = q.getLast? by simp [youV, hq])
  clear hQ hU BI hq hbl hP hL
  unfold GivesI
  rw [HV.out]
  by_cases h0 : q.length = 0
  · have hqe : q = [] := List.length_eq_zero_iff.1 h0
    subst hqe
    have hb0 : (((([] : List IncR).length : Nat) : Int) == 0) = true := by simp
    clear h0 hm'
    go_enter Tryd.func16, Tryd.ntmps16
    go_upto_region 1 with fail
    rw [← HU.out]
    go_wp2_with fail
    refine bodyPost_ret (v := .tuple #[inc0.v, .bool false]) (by simp [results, Tryd.results16, go_sem, inc0, IncR.v, p0, p1, p2, p3, p4]) rfl ⟨by simp, below_put5 HBU.out (Nat.le_refl _) _ _ _ _ _⟩
  · have hb0 : ((q.length : Int) == 0) = false := by simp only [beq_eq_false_iff_ne]; omega
    obtain ⟨i, hi⟩ := nth_of (show (q.length - 1) < q.length by omega)
    have HI := Lib.hid (show q.getLast? = some i by rw [← hi, List.getLast?_eq_getElem?])
    obtain ⟨b', o', rfl, hP', hbz', d0, d1, d2, d3, d4⟩ := HL.out.at_ hi
    have hz : IntKind.i64.wrap ((q.length : Int) - 1) = ((q.length - 1 : Nat) : Int) := by rw [IntWalk.i64_in _ (by omega)]; omega
    have hz2 : 0 ≤ ((q.length - 1 : Nat) : Int) ∧ ((q.length - 1 : Nat) : Int) < q.length := by omega
    clear h0 hm hm' hi hP'
    go_enter Tryd.func16, Tryd.ntmps16
    go_upto_region 1 with fail
    rw [← HU.out]
    go_wp2_with fail
    go_region
    go_wp2
    refine bodyPost_ret (v := .tuple #[i.v, .bool true]) (by simp [results, Tryd.results16, go_sem, IncR.v, p0, p1, p2, p3, p4]) rfl ⟨by rw [HI.out]; rfl, below_put5 HBU.out.drew (Nat.le_refl _) _ _ _ _ _⟩

set_option maxHeartbeats 4000000 in
theorem refAdd_any (A : Option Addr) (c : Nat) (Q : List (List IncR)) (b : Nat) (q : List IncR) (x0 x2 x3 x4 : Int) (w : World) (hQ : QArr w (Lt w.heap.size) A c Q) (hn : Q.length ≤ 4096) (hqn : ∀ q ∈ Q, q.length ≤ 4000) (hb : Q[b]? = some q)
    (hlast : ∀ j, q.getLast? = some j → j.sq < x0) :
    Calls Tryd.prog 20 #[.slice A Q.length c, .agg #[.int .i64 x0, .int .i64 b, .int .i64 x2, .int .i64 x3, .int .i64 x4]] w fun e w' => ∃ v, e = .returned (.tuple #[v, .int .i64 0]) ∧ Rows2 w' w.heap.size v (Q.set b (q ++ [⟨x0, b, x2, x3, x4⟩])) ∧ Below w.heap.size w w' := by
  obtain ⟨i0, hi0, hz0, hz1, hz2⟩ := info_parts inc_info
  have hbl := get_lt hb
  obtain ⟨U, hU⟩ : ∃ U, U = w.alloc (.cells #[.int .i64 x0, .int .i64 (b : Int), .int .i64 x2, .int .i64 x3, .int .i64 x4] 38) := ⟨_, rfl⟩
  have BI := Lib.hid (show Blk U w.heap.size 38 #[.int .i64 x0, .int .i64 (b : Int), .int .i64 x2, .int .i64 x3, .int .i64 x4] by rw [hU]; exact Blk.new _ _ _)
  have HBU : Hid (Below w.heap.size w U) := by rw [hU]; exact (Below.refl _ _).alloc (Nat.le_refl _) _
  have HU := Lib.hid hU
  have HQ := Lib.hid (hQ.next HBU.out)
  have HQB := Lib.hid hb
  have HLAST := Lib.hid hlast
  have HQN := Lib.hid hqn
  have HIB := Lib.hid (show isBQ Q.length b = true by simp [isBQ]; omega)
  have HYV := Lib.hid (show youV Q b = q.getLast? by simp [youV, hb])
  have hql := hqn q (List.mem_iff_getElem?.2 ⟨b, hb⟩)
  have p0 := BI.out.cell 0
  have p1 := BI.out.cell 1
  simp at p0 p1
  clear hQ hU hb hlast hqn
  go_enter Tryd.func20, Tryd.ntmps20
  have hb1 : ¬ ((b : Int) < 0) := by omega
  have hb2' : ¬ ((Q.length : Int) ≤ b) := by omega
  have hb3' : ¬ (Q.length ≤ b) := by omega
  go_upto_region 1 with fail
  rw [← HU.out]
  go_wp2_with fail
  refine (refYoungest_any A c Q b U HQ.out hbl).mono ?_
  rintro e U2 ⟨rfl, hb2⟩
  rw [HYV.out]
  have BI2 := Lib.hid (BI.out.next hb2)
  have HB2 : Hid (Below w.heap.size w U2) := below_next HBU.out (Nat.le_refl _) hb2
  have HQ2 := Lib.hid (HQ.out.next hb2)
  clear hb2 p0 p1
  have p0 := BI2.out.cell 0
  have p1 := BI2.out.cell 1
  have p2 := BI2.out.cell 2
  have p3 := BI2.out.cell 3
  have p4 := BI2.out.cell 4
  simp at p0 p1 p2 p3 p4
  have zi : w.heap.size < U2.heap.size := BI2.out.lt
  obtain ⟨l, hl⟩ : ∃ l, l = q.getLast? := ⟨_, rfl⟩
  rw [← hl]
  have hll : l = none ∨ ∃ j, l = some j ∧ j.sq < x0 := by
    cases l with
    | none => exact .inl rfl
    | some j => exact .inr ⟨j, rfl, HLAST.out j hl.symm⟩
  obtain ⟨y0, y1, y2, y3, y4, f, hlv, hlf⟩ : ∃ (y0 y1 y2 y3 y4 : Int) (f : Bool), (Value.tuple #[(l.getD inc0).v, .bool l.isSome]) = .tuple #[.agg #[.int .i64 y0, .int .i64 y1, .int .i64 y2, .int .i64 y3, .int .i64 y4], .bool f] ∧ (f = true → y0 < x0) := by
    rcases hll with rfl | ⟨j, rfl, hj⟩
    · exact ⟨0, 0, 0, 0, 0, false, rfl, fun h => by cases h⟩
    · exact ⟨j.sq, j.bt, j.fi, j.la, j.wo, true, rfl, fun _ => hj⟩
  rw [hlv]
  clear hll hl hlv
  obtain ⟨V, hV⟩ : ∃ V, V = U2.alloc (.cells #[.int .i64 y0, .int .i64 y1, .int .i64 y2, .int .i64 y3, .int .i64 y4] 38) := ⟨_, rfl⟩
  have hbV : Below U2.heap.size U2 V := by rw [hV]; exact (Below.refl _ _).alloc (Nat.le_refl _) _
  have BIV := Lib.hid (BI2.out.next hbV)
  have HBV : Hid (Below w.heap.size w V) := below_next HB2.out (Nat.le_refl _) hbV
  have HQV := Lib.hid (HQ2.out.next hbV)
  have HVV := Lib.hid hV
  clear hV hbV
  have key : ∀ K : World → Prop, K V → K V := fun _ h => h
  have hgo : f = false ∨ (f = true ∧ ¬ x0 ≤ y0) := by
    cases f with
    | false => exact .inl rfl
    | true => exact .inr ⟨rfl, by have := hlf rfl; omega⟩
  rcases hgo with rfl | ⟨rfl, hxy⟩
  · clear hlf key
    go_wp2_with fail
    rw [← HVV.out]
    refine (copyQ_any A c Q V HQV.out hn HQN.out).mono ?_
    rintro e V1 ⟨v, rfl, hr1, hv1, hb3⟩
    obtain ⟨g, cap, y, rfl, hlo, hgl, hcy, hyo, hput⟩ := hr1.get HQB.out
    obtain ⟨Ay, cy, rfl, _⟩ := row_slice hyo
    have HPUT := Lib.hid hput
    have HB3 : Hid (Below w.heap.size w V1) := below_next HBV.out (Nat.le_refl _) hb3
    have BI1 := BIV.out.next hb3
    have hVw : w.heap.size < V.heap.size := BIV.out.lt
    have hVV : V.heap.size ≤ V1.heap.size := hb3.size
    have HNE : Hid (∀ j, some (⟨w.heap.size, j, none⟩ : Addr).block ≠ (Value.slice Ay q.length cy).ownBlock) := Lib.hid fun j e => by
      have := (hyo.lt _ e.symm).1
      simp at this
      omega
    have HYO2 : Hid ((V1.drew.alloc (.cells #[.int .i64 x0, .int .i64 (b : Int), .int .i64 x2, .int .i64 x3, .int .i64 x4] 38)).ownsRow V.heap.size 38 5 (.slice Ay q.length cy) q.length (incCells q)) := Lib.hid (World.ownsRow.alloc (show V1.drew.ownsRow _ _ _ _ _ _ from hyo) _)
    have HN5 : Hid (∀ (j : Nat) (u : Value), [Value.int .i64 x0, .int .i64 (b : Int), .int .i64 x2, .int .i64 x3, .int .i64 x4][j]? = some u → (V1.drew.alloc (.cells #[.int .i64 x0, .int .i64 (b : Int), .int .i64 x2, .int .i64 x3, .int .i64 x4] 38)).cell? ((⟨V1.heap.size, 0, none⟩ : Addr).add j) = some u) := Lib.hid (five_news (by go_simp) (by go_simp) (by go_simp) (by go_simp) (by go_simp))
    have HBA : Hid (Below V1.heap.size V1 (V1.drew.alloc (.cells #[.int .i64 x0, .int .i64 (b : Int), .int .i64 x2, .int .i64 x3, .int .i64 x4] 38))) := Lib.hid (((Below.refl V1.heap.size V1).drew).alloc (Nat.le_refl _) _)
    have HM1 := Lib.hid (show q.length + 1 ≤ maxLen by simp only [maxLen]; omega)
    have HM2 := Lib.hid (show (q.length + 1) * 40 ≤ 140737488355328 by omega)
    have HVV2 := Lib.hid (show V.heap.size ≤ (V1.drew.alloc (.cells #[.int .i64 x0, .int .i64 (b : Int), .int .i64 x2, .int .i64 x3, .int .i64 x4] 38)).heap.size by simp; omega)
    have HRB : Hid (∀ k, (Value.slice Ay q.length cy).ownBlock = some k → w.heap.size ≤ k) := Lib.hid fun k hk => by
      have := (hyo.lt k hk).1
      omega
    have HWW := Lib.hid (show w.heap.size ≤ (V1.drew.alloc (.cells #[.int .i64 x0, .int .i64 (b : Int), .int .i64 x2, .int .i64 x3, .int .i64 x4] 38)).heap.size by simp; omega)
    have hb2 : 0 ≤ (b : Int) ∧ (b : Int) < Q.length := by omega
    clear p0 p1 p2 p3 p4 hput hr1 hv1 hyo
    have p0 := BI1.cell 0
    have p1 := BI1.cell 1
    have p2 := BI1.cell 2
    have p3 := BI1.cell 3
    have p4 := BI1.cell 4
    simp at p0 p1 p2 p3 p4
    have zi : w.heap.size < V1.heap.size := BI1.lt
    have hgw : w.heap.size ≠ g := by omega
    have a0 := Lib.cell?_alloc_some (.cells #[.int .i64 x0, .int .i64 (b : Int), .int .i64 x2, .int .i64 x3, .int .i64 x4] 38) (show V1.drew.cell? ⟨w.heap.size, 0, none⟩ = _ from p0)
    have a1 := Lib.cell?_alloc_some (.cells #[.int .i64 x0, .int .i64 (b : Int), .int .i64 x2, .int .i64 x3, .int .i64 x4] 38) (show V1.drew.cell? ⟨w.heap.size, 1, none⟩ = _ from p1)
    have a2 := Lib.cell?_alloc_some (.cells #[.int .i64 x0, .int .i64 (b : Int), .int .i64 x2, .int .i64 x3, .int .i64 x4] 38) (show V1.drew.cell? ⟨w.heap.size, 2, none⟩ = _ from p2)
    have a3 := Lib.cell?_alloc_some (.cells #[.int .i64 x0, .int .i64 (b : Int), .int .i64 x2, .int .i64 x3, .int .i64 x4] 38) (show V1.drew.cell? ⟨w.heap.size, 3, none⟩ = _ from p3)
    have a4 := Lib.cell?_alloc_some (.cells #[.int .i64 x0, .int .i64 (b : Int), .int .i64 x2, .int .i64 x3, .int .i64 x4] 38) (show V1.drew.cell? ⟨w.heap.size, 4, none⟩ = _ from p4)
    have acy := Lib.cell?_alloc_some (.cells #[.int .i64 x0, .int .i64 (b : Int), .int .i64 x2, .int .i64 x3, .int .i64 x4] 38) (show V1.drew.cell? ⟨g, b, none⟩ = _ from hcy)
    clear BI1 hb3
    go_wp2_with fail
    refine wp_region_held_drew (S := (fun w' => w'.cell? ⟨w.heap.size, 0, none⟩ = some (.int .i64 x0) ∧ w'.cell? ⟨w.heap.size, 1, none⟩ = some (.int .i64 (b : Int)) ∧ w'.cell? ⟨w.heap.size, 2, none⟩ = some (.int .i64 x2) ∧ w'.cell? ⟨w.heap.size, 3, none⟩ = some (.int .i64 x3) ∧ w'.cell? ⟨w.heap.size, 4, none⟩ = some (.int .i64 x4))) (by kernel_rfl) ?_ (fun hHeld => ?_)
    · exact ⟨p0, p1, p2, p3, p4⟩
    (refine wpAnyH_take (i := 0) (v := ?_) rfl (by kernel_rfl) (by kernel_rfl) (by kernel_rfl) (fun _ _ _ h => h) (Or.inl ⟨by rfl, ?_⟩) (by assumption) ?_; rotate_left 1; (focus (intro w' hSw; (try dsimp only at hSw); go_simp; (try with_reducible rfl); done)); try simp only [Act.put, List.setIfInBounds_toArray, List.set_cons_zero, List.set_cons_succ, List.getElem_toArray, List.getElem_cons_zero])
    (refine wpAnyH_take (i := 1) (v := ?_) rfl (by kernel_rfl) (by kernel_rfl) (by kernel_rfl) (fun _ _ _ h => h) (Or.inl ⟨by rfl, ?_⟩) (by assumption) ?_; rotate_left 1; (focus (intro w' hSw; (try dsimp only at hSw); go_simp; (try with_reducible rfl); done)); try simp only [Act.put, List.setIfInBounds_toArray, List.set_cons_zero, List.set_cons_succ, List.getElem_toArray, List.getElem_cons_zero, List.getElem_cons_succ])
    (refine wpAnyH_take (i := 2) (v := ?_) rfl (by kernel_rfl) (by kernel_rfl) (by kernel_rfl) (fun _ _ _ h => h) (Or.inl ⟨by rfl, ?_⟩) (by assumption) ?_; rotate_left 1; (focus (intro w' hSw; (try dsimp only at hSw); go_simp; (try with_reducible rfl); done)); try simp only [Act.put, List.setIfInBounds_toArray, List.set_cons_zero, List.set_cons_succ, List.getElem_toArray, List.getElem_cons_zero, List.getElem_cons_succ])
    (refine wpAnyH_take (i := 3) (v := ?_) rfl (by kernel_rfl) (by kernel_rfl) (by kernel_rfl) (fun _ _ _ h => h) (Or.inl ⟨by rfl, ?_⟩) (by assumption) ?_; rotate_left 1; (focus (intro w' hSw; (try dsimp only at hSw); go_simp; (try with_reducible rfl); done)); try simp only [Act.put, List.setIfInBounds_toArray, List.set_cons_zero, List.set_cons_succ, List.getElem_toArray, List.getElem_cons_zero, List.getElem_cons_succ])
    (refine wpAnyH_take (i := 4) (v := ?_) rfl (by kernel_rfl) (by kernel_rfl) (by kernel_rfl) (fun _ _ _ h => h) (Or.inl ⟨by rfl, ?_⟩) (by assumption) ?_; rotate_left 1; (focus (intro w' hSw; (try dsimp only at hSw); go_simp; (try with_reducible rfl); done)); try simp only [Act.put, List.setIfInBounds_toArray, List.set_cons_zero, List.set_cons_succ, List.getElem_toArray, List.getElem_cons_zero, List.getElem_cons_succ])
    (refine wpAnyH_take (i := 5) (v := ?_) rfl (by kernel_rfl) (by kernel_rfl) (by kernel_rfl) (fun _ _ _ h => h) (Or.inl ⟨by rfl, ?_⟩) (by assumption) ?_; rotate_left 1; (focus (intro w' hSw; (try dsimp only at hSw); go_simp; (try with_reducible rfl); done)); try simp only [Act.put, List.setIfInBounds_toArray, List.set_cons_zero, List.set_cons_succ, List.getElem_toArray, List.getElem_cons_zero, List.getElem_cons_succ])
    (refine wpAnyH_take (i := 6) (v := ?_) rfl (by kernel_rfl) (by kernel_rfl) (by kernel_rfl) (fun _ _ _ h => h) (Or.inl ⟨by rfl, ?_⟩) (by assumption) ?_; rotate_left 1; (focus (intro w' hSw; (try dsimp only at hSw); go_simp; (try with_reducible rfl); done)); try simp only [Act.put, List.setIfInBounds_toArray, List.set_cons_zero, List.set_cons_succ, List.getElem_toArray, List.getElem_cons_zero, List.getElem_cons_succ])
    (refine wpAnyH_take (i := 8) (v := ?_) rfl (by kernel_rfl) (by kernel_rfl) (by kernel_rfl) (fun _ _ _ h => h) (Or.inl ⟨by rfl, ?_⟩) (by assumption) ?_; rotate_left 1; (focus (intro w' hSw; (try dsimp only at hSw); go_simp; (try with_reducible rfl); done)); try simp only [Act.put, List.setIfInBounds_toArray, List.set_cons_zero, List.set_cons_succ, List.getElem_toArray, List.getElem_cons_zero, List.getElem_cons_succ])
    refine wpAnyH_ready (rs := [7, 9]) (by kernel_rfl) (by simp) ?_
    refine AllReadyH.cons rfl (fun K hK => ?_) (AllReadyH.cons rfl (fun K hK => ?_) AllReadyH.nil)
    · go_simp
      refine hK.out _ _ ⟨p0, p1, p2, p3, p4⟩ (fun hHeld2 => ?_)
      clear hK K hHeld
      have hHeld := hHeld2
      clear hHeld2
      try simp only [Act.put, List.setIfInBounds_toArray, List.set_cons_zero, List.set_cons_succ, List.getElem_toArray, List.getElem_cons_zero, List.getElem_cons_succ]
      refine wpAnyH_ready (rs := [9]) (by kernel_rfl) (by simp) ?_
      refine AllReadyH.cons rfl (fun K hK => ?_) AllReadyH.nil
      go_simp
      refine hK.out _ _ ⟨a0, a1, a2, a3, a4⟩ (fun hHeld2 => ?_)
      clear hK K hHeld
      have hHeld := hHeld2
      clear hHeld2
      try simp only [Act.put, List.setIfInBounds_toArray, List.set_cons_zero, List.set_cons_succ, List.getElem_toArray, List.getElem_cons_zero, List.getElem_cons_succ]
      refine wpAnyH_ready (rs := [10]) (by kernel_rfl) (by simp) ?_
      refine AllReadyH.cons rfl (fun K hK => ?_) AllReadyH.nil
      rw [if_pos (by rfl)]
      refine wp_append_at _ (.tmp 43) (.tmp 45) 39 rfl V.heap.size 38 i0 _ 5 40 Tryd.underlying39 hi0 hz0 hz1 hz2 rfl (by decide) (.slice Ay q.length cy) q.length (incCells q) rfl HYO2.out ⟨V1.heap.size, 0, none⟩ 1 1 [.int .i64 x0, .int .i64 (b : Int), .int .i64 x2, .int .i64 x3, .int .i64 x4] rfl rfl HN5.out (by simp [Value.oneCell']) HM1.out HM2.out HVV2.out ?_
      intro v' w2 hown hgr hblk
      obtain ⟨A', c', rfl, _⟩ := row_slice hown
      obtain ⟨s5, sf, sz, hr2⟩ := HPUT.out w2 (.slice A' (q.length + 1) c') (q ++ [⟨x0, b, x2, x3, x4⟩]) (grown_left HBA.out hgr) (by rw [incCells_snoc, List.length_append]; exact hown) (hblk.imp id fun h x hx => Nat.le_trans HBA.out.size (h x hx)) rfl
      have s0 := World.grownBy.cell hgr a0 (HNE.out 0)
      have s1 := World.grownBy.cell hgr a1 (HNE.out 1)
      have s2 := World.grownBy.cell hgr a2 (HNE.out 2)
      have s3 := World.grownBy.cell hgr a3 (HNE.out 3)
      have s4 := World.grownBy.cell hgr a4 (HNE.out 4)
      have t0 := (cell_far (w := w2) (t := b) (u := .slice A' (q.length + 1) c') hgw).trans s0
      have t1 := (cell_far (w := w2) (t := b) (u := .slice A' (q.length + 1) c') hgw).trans s1
      have t2 := (cell_far (w := w2) (t := b) (u := .slice A' (q.length + 1) c') hgw).trans s2
      have t3 := (cell_far (w := w2) (t := b) (u := .slice A' (q.length + 1) c') hgw).trans s3
      have t4 := (cell_far (w := w2) (t := b) (u := .slice A' (q.length + 1) c') hgw).trans s4
      refine hK.out _ _ ⟨s0, s1, s2, s3, s4⟩ (fun hHeld2 => ?_)
      clear hK K hHeld
      have hHeld := hHeld2
      clear hHeld2
      try simp only [Act.put, List.setIfInBounds_toArray, List.set_cons_zero, List.set_cons_succ, List.getElem_toArray, List.getElem_cons_zero, List.getElem_cons_succ]
      (refine wpAnyH_take (i := 11) (v := ?_) rfl (by kernel_rfl) (by kernel_rfl) (by kernel_rfl) (fun _ _ _ h => h) (Or.inl ⟨by rfl, ?_⟩) (by assumption) ?_; rotate_left 1; (focus (intro w' hSw; (try dsimp only at hSw); go_simp; (try with_reducible rfl); done)); try simp only [Act.put, List.setIfInBounds_toArray, List.set_cons_zero, List.set_cons_succ, List.getElem_toArray, List.getElem_cons_zero, List.getElem_cons_succ])
      refine wpAnyH_ready (rs := [12]) (by kernel_rfl) (by simp) ?_
      refine AllReadyH.cons rfl (fun K hK => ?_) AllReadyH.nil
      go_simp
      refine hK.out _ _ ⟨t0, t1, t2, t3, t4⟩ (fun hHeld2 => ?_)
      clear hK K hHeld
      have hHeld := hHeld2
      clear hHeld2
      try simp only [Act.put, List.setIfInBounds_toArray, List.set_cons_zero, List.set_cons_succ, List.getElem_toArray, List.getElem_cons_zero, List.getElem_cons_succ]
      refine wpAnyH_done (by kernel_rfl) ?_ _
      have HR2 := Lib.hid (hr2.lower (Nat.le_of_lt hVw))
      have HB5 : Hid (Below w.heap.size w (w2.setCell ⟨g, b, none⟩ (.slice A' (q.length + 1) c'))) := Lib.hid (((below_next HB3.out (Nat.le_refl _) HBA.out).grown hgr HWW.out HRB.out).setCell (p := ⟨g, b, none⟩) (by show w.heap.size ≤ g; omega) _)
      clear hHeld a0 a1 a2 a3 a4 acy hr2 hgr hown hblk s0 s1 s2 s3 s4 s5 t0 t1 t2 t3 t4 sf sz hcy HPUT
      go_wp2
      go_ret2
      exact ⟨_, rfl, HR2.out, HB5.out⟩
    · go_simp
      refine hK.out _ _ ⟨a0, a1, a2, a3, a4⟩ (fun hHeld2 => ?_)
      clear hK K hHeld
      have hHeld := hHeld2
      clear hHeld2
      try simp only [Act.put, List.setIfInBounds_toArray, List.set_cons_zero, List.set_cons_succ, List.getElem_toArray, List.getElem_cons_zero, List.getElem_cons_succ]
      refine wpAnyH_ready (rs := [7]) (by kernel_rfl) (by simp) ?_
      refine AllReadyH.cons rfl (fun K hK => ?_) AllReadyH.nil
      go_simp
      refine hK.out _ _ ⟨a0, a1, a2, a3, a4⟩ (fun hHeld2 => ?_)
      clear hK K hHeld
      have hHeld := hHeld2
      clear hHeld2
      try simp only [Act.put, List.setIfInBounds_toArray, List.set_cons_zero, List.set_cons_succ, List.getElem_toArray, List.getElem_cons_zero, List.getElem_cons_succ]
      refine wpAnyH_ready (rs := [10]) (by kernel_rfl) (by simp) ?_
      refine AllReadyH.cons rfl (fun K hK => ?_) AllReadyH.nil
      rw [if_pos (by rfl)]
      refine wp_append_at _ (.tmp 43) (.tmp 45) 39 rfl V.heap.size 38 i0 _ 5 40 Tryd.underlying39 hi0 hz0 hz1 hz2 rfl (by decide) (.slice Ay q.length cy) q.length (incCells q) rfl HYO2.out ⟨V1.heap.size, 0, none⟩ 1 1 [.int .i64 x0, .int .i64 (b : Int), .int .i64 x2, .int .i64 x3, .int .i64 x4] rfl rfl HN5.out (by simp [Value.oneCell']) HM1.out HM2.out HVV2.out ?_
      intro v' w2 hown hgr hblk
      obtain ⟨A', c', rfl, _⟩ := row_slice hown
      obtain ⟨s5, sf, sz, hr2⟩ := HPUT.out w2 (.slice A' (q.length + 1) c') (q ++ [⟨x0, b, x2, x3, x4⟩]) (grown_left HBA.out hgr) (by rw [incCells_snoc, List.length_append]; exact hown) (hblk.imp id fun h x hx => Nat.le_trans HBA.out.size (h x hx)) rfl
      have s0 := World.grownBy.cell hgr a0 (HNE.out 0)
      have s1 := World.grownBy.cell hgr a1 (HNE.out 1)
      have s2 := World.grownBy.cell hgr a2 (HNE.out 2)
      have s3 := World.grownBy.cell hgr a3 (HNE.out 3)
      have s4 := World.grownBy.cell hgr a4 (HNE.out 4)
      have t0 := (cell_far (w := w2) (t := b) (u := .slice A' (q.length + 1) c') hgw).trans s0
      have t1 := (cell_far (w := w2) (t := b) (u := .slice A' (q.length + 1) c') hgw).trans s1
      have t2 := (cell_far (w := w2) (t := b) (u := .slice A' (q.length + 1) c') hgw).trans s2
      have t3 := (cell_far (w := w2) (t := b) (u := .slice A' (q.length + 1) c') hgw).trans s3
      have t4 := (cell_far (w := w2) (t := b) (u := .slice A' (q.length + 1) c') hgw).trans s4
      refine hK.out _ _ ⟨s0, s1, s2, s3, s4⟩ (fun hHeld2 => ?_)
      clear hK K hHeld
      have hHeld := hHeld2
      clear hHeld2
      try simp only [Act.put, List.setIfInBounds_toArray, List.set_cons_zero, List.set_cons_succ, List.getElem_toArray, List.getElem_cons_zero, List.getElem_cons_succ]
      (refine wpAnyH_take (i := 11) (v := ?_) rfl (by kernel_rfl) (by kernel_rfl) (by kernel_rfl) (fun _ _ _ h => h) (Or.inl ⟨by rfl, ?_⟩) (by assumption) ?_; rotate_left 1; (focus (intro w' hSw; (try dsimp only at hSw); go_simp; (try with_reducible rfl); done)); try simp only [Act.put, List.setIfInBounds_toArray, List.set_cons_zero, List.set_cons_succ, List.getElem_toArray, List.getElem_cons_zero, List.getElem_cons_succ])
      refine wpAnyH_ready (rs := [12]) (by kernel_rfl) (by simp) ?_
      refine AllReadyH.cons rfl (fun K hK => ?_) AllReadyH.nil
      go_simp
      refine hK.out _ _ ⟨t0, t1, t2, t3, t4⟩ (fun hHeld2 => ?_)
      clear hK K hHeld
      have hHeld := hHeld2
      clear hHeld2
      try simp only [Act.put, List.setIfInBounds_toArray, List.set_cons_zero, List.set_cons_succ, List.getElem_toArray, List.getElem_cons_zero, List.getElem_cons_succ]
      refine wpAnyH_done (by kernel_rfl) ?_ _
      have HR2 := Lib.hid (hr2.lower (Nat.le_of_lt hVw))
      have HB5 : Hid (Below w.heap.size w (w2.setCell ⟨g, b, none⟩ (.slice A' (q.length + 1) c'))) := Lib.hid (((below_next HB3.out (Nat.le_refl _) HBA.out).grown hgr HWW.out HRB.out).setCell (p := ⟨g, b, none⟩) (by show w.heap.size ≤ g; omega) _)
      clear hHeld a0 a1 a2 a3 a4 acy hr2 hgr hown hblk s0 s1 s2 s3 s4 s5 t0 t1 t2 t3 t4 sf sz hcy HPUT
      go_wp2
      go_ret2
      exact ⟨_, rfl, HR2.out, HB5.out⟩
  · clear hlf key
    go_wp2_with fail
    rw [← HVV.out]
    refine (copyQ_any A c Q V HQV.out hn HQN.out).mono ?_
    rintro e V1 ⟨v, rfl, hr1, hv1, hb3⟩
    obtain ⟨g, cap, y, rfl, hlo, hgl, hcy, hyo, hput⟩ := hr1.get HQB.out
    obtain ⟨Ay, cy, rfl, _⟩ := row_slice hyo
    have HPUT := Lib.hid hput
    have HB3 : Hid (Below w.heap.size w V1) := below_next HBV.out (Nat.le_refl _) hb3
    have BI1 := BIV.out.next hb3
    have hVw : w.heap.size < V.heap.size := BIV.out.lt
    have hVV : V.heap.size ≤ V1.heap.size := hb3.size
    have HNE : Hid (∀ j, some (⟨w.heap.size, j, none⟩ : Addr).block ≠ (Value.slice Ay q.length cy).ownBlock) := Lib.hid fun j e => by
      have := (hyo.lt _ e.symm).1
      simp at this
      omega
    have HYO2 : Hid ((V1.drew.alloc (.cells #[.int .i64 x0, .int .i64 (b : Int), .int .i64 x2, .int .i64 x3, .int .i64 x4] 38)).ownsRow V.heap.size 38 5 (.slice Ay q.length cy) q.length (incCells q)) := Lib.hid (World.ownsRow.alloc (show V1.drew.ownsRow _ _ _ _ _ _ from hyo) _)
    have HN5 : Hid (∀ (j : Nat) (u : Value), [Value.int .i64 x0, .int .i64 (b : Int), .int .i64 x2, .int .i64 x3, .int .i64 x4][j]? = some u → (V1.drew.alloc (.cells #[.int .i64 x0, .int .i64 (b : Int), .int .i64 x2, .int .i64 x3, .int .i64 x4] 38)).cell? ((⟨V1.heap.size, 0, none⟩ : Addr).add j) = some u) := Lib.hid (five_news (by go_simp) (by go_simp) (by go_simp) (by go_simp) (by go_simp))
    have HBA : Hid (Below V1.heap.size V1 (V1.drew.alloc (.cells #[.int .i64 x0, .int .i64 (b : Int), .int .i64 x2, .int .i64 x3, .int .i64 x4] 38))) := Lib.hid (((Below.refl V1.heap.size V1).drew).alloc (Nat.le_refl _) _)
    have HM1 := Lib.hid (show q.length + 1 ≤ maxLen by simp only [maxLen]; omega)
    have HM2 := Lib.hid (show (q.length + 1) * 40 ≤ 140737488355328 by omega)
    have HVV2 := Lib.hid (show V.heap.size ≤ (V1.drew.alloc (.cells #[.int .i64 x0, .int .i64 (b : Int), .int .i64 x2, .int .i64 x3, .int .i64 x4] 38)).heap.size by simp; omega)
    have HRB : Hid (∀ k, (Value.slice Ay q.length cy).ownBlock = some k → w.heap.size ≤ k) := Lib.hid fun k hk => by
      have := (hyo.lt k hk).1
      omega
    have HWW := Lib.hid (show w.heap.size ≤ (V1.drew.alloc (.cells #[.int .i64 x0, .int .i64 (b : Int), .int .i64 x2, .int .i64 x3, .int .i64 x4] 38)).heap.size by simp; omega)
    have hb2 : 0 ≤ (b : Int) ∧ (b : Int) < Q.length := by omega
    clear p0 p1 p2 p3 p4 hput hr1 hv1 hyo
    have p0 := BI1.cell 0
    have p1 := BI1.cell 1
    have p2 := BI1.cell 2
    have p3 := BI1.cell 3
    have p4 := BI1.cell 4
    simp at p0 p1 p2 p3 p4
    have zi : w.heap.size < V1.heap.size := BI1.lt
    have hgw : w.heap.size ≠ g := by omega
    have a0 := Lib.cell?_alloc_some (.cells #[.int .i64 x0, .int .i64 (b : Int), .int .i64 x2, .int .i64 x3, .int .i64 x4] 38) (show V1.drew.cell? ⟨w.heap.size, 0, none⟩ = _ from p0)
    have a1 := Lib.cell?_alloc_some (.cells #[.int .i64 x0, .int .i64 (b : Int), .int .i64 x2, .int .i64 x3, .int .i64 x4] 38) (show V1.drew.cell? ⟨w.heap.size, 1, none⟩ = _ from p1)
    have a2 := Lib.cell?_alloc_some (.cells #[.int .i64 x0, .int .i64 (b : Int), .int .i64 x2, .int .i64 x3, .int .i64 x4] 38) (show V1.drew.cell? ⟨w.heap.size, 2, none⟩ = _ from p2)
    have a3 := Lib.cell?_alloc_some (.cells #[.int .i64 x0, .int .i64 (b : Int), .int .i64 x2, .int .i64 x3, .int .i64 x4] 38) (show V1.drew.cell? ⟨w.heap.size, 3, none⟩ = _ from p3)
    have a4 := Lib.cell?_alloc_some (.cells #[.int .i64 x0, .int .i64 (b : Int), .int .i64 x2, .int .i64 x3, .int .i64 x4] 38) (show V1.drew.cell? ⟨w.heap.size, 4, none⟩ = _ from p4)
    have acy := Lib.cell?_alloc_some (.cells #[.int .i64 x0, .int .i64 (b : Int), .int .i64 x2, .int .i64 x3, .int .i64 x4] 38) (show V1.drew.cell? ⟨g, b, none⟩ = _ from hcy)
    clear BI1 hb3
    go_wp2_with fail
    refine wp_region_held_drew (S := (fun w' => w'.cell? ⟨w.heap.size, 0, none⟩ = some (.int .i64 x0) ∧ w'.cell? ⟨w.heap.size, 1, none⟩ = some (.int .i64 (b : Int)) ∧ w'.cell? ⟨w.heap.size, 2, none⟩ = some (.int .i64 x2) ∧ w'.cell? ⟨w.heap.size, 3, none⟩ = some (.int .i64 x3) ∧ w'.cell? ⟨w.heap.size, 4, none⟩ = some (.int .i64 x4))) (by kernel_rfl) ?_ (fun hHeld => ?_)
    · exact ⟨p0, p1, p2, p3, p4⟩
    (refine wpAnyH_take (i := 0) (v := ?_) rfl (by kernel_rfl) (by kernel_rfl) (by kernel_rfl) (fun _ _ _ h => h) (Or.inl ⟨by rfl, ?_⟩) (by assumption) ?_; rotate_left 1; (focus (intro w' hSw; (try dsimp only at hSw); go_simp; (try with_reducible rfl); done)); try simp only [Act.put, List.setIfInBounds_toArray, List.set_cons_zero, List.set_cons_succ, List.getElem_toArray, List.getElem_cons_zero])
    (refine wpAnyH_take (i := 1) (v := ?_) rfl (by kernel_rfl) (by kernel_rfl) (by kernel_rfl) (fun _ _ _ h => h) (Or.inl ⟨by rfl, ?_⟩) (by assumption) ?_; rotate_left 1; (focus (intro w' hSw; (try dsimp only at hSw); go_simp; (try with_reducible rfl); done)); try simp only [Act.put, List.setIfInBounds_toArray, List.set_cons_zero, List.set_cons_succ, List.getElem_toArray, List.getElem_cons_zero, List.getElem_cons_succ])
    (refine wpAnyH_take (i := 2) (v := ?_) rfl (by kernel_rfl) (by kernel_rfl) (by kernel_rfl) (fun _ _ _ h => h) (Or.inl ⟨by rfl, ?_⟩) (by assumption) ?_; rotate_left 1; (focus (intro w' hSw; (try dsimp only at hSw); go_simp; (try with_reducible rfl); done)); try simp only [Act.put, List.setIfInBounds_toArray, List.set_cons_zero, List.set_cons_succ, List.getElem_toArray, List.getElem_cons_zero, List.getElem_cons_succ])
    (refine wpAnyH_take (i := 3) (v := ?_) rfl (by kernel_rfl) (by kernel_rfl) (by kernel_rfl) (fun _ _ _ h => h) (Or.inl ⟨by rfl, ?_⟩) (by assumption) ?_; rotate_left 1; (focus (intro w' hSw; (try dsimp only at hSw); go_simp; (try with_reducible rfl); done)); try simp only [Act.put, List.setIfInBounds_toArray, List.set_cons_zero, List.set_cons_succ, List.getElem_toArray, List.getElem_cons_zero, List.getElem_cons_succ])
    (refine wpAnyH_take (i := 4) (v := ?_) rfl (by kernel_rfl) (by kernel_rfl) (by kernel_rfl) (fun _ _ _ h => h) (Or.inl ⟨by rfl, ?_⟩) (by assumption) ?_; rotate_left 1; (focus (intro w' hSw; (try dsimp only at hSw); go_simp; (try with_reducible rfl); done)); try simp only [Act.put, List.setIfInBounds_toArray, List.set_cons_zero, List.set_cons_succ, List.getElem_toArray, List.getElem_cons_zero, List.getElem_cons_succ])
    (refine wpAnyH_take (i := 5) (v := ?_) rfl (by kernel_rfl) (by kernel_rfl) (by kernel_rfl) (fun _ _ _ h => h) (Or.inl ⟨by rfl, ?_⟩) (by assumption) ?_; rotate_left 1; (focus (intro w' hSw; (try dsimp only at hSw); go_simp; (try with_reducible rfl); done)); try simp only [Act.put, List.setIfInBounds_toArray, List.set_cons_zero, List.set_cons_succ, List.getElem_toArray, List.getElem_cons_zero, List.getElem_cons_succ])
    (refine wpAnyH_take (i := 6) (v := ?_) rfl (by kernel_rfl) (by kernel_rfl) (by kernel_rfl) (fun _ _ _ h => h) (Or.inl ⟨by rfl, ?_⟩) (by assumption) ?_; rotate_left 1; (focus (intro w' hSw; (try dsimp only at hSw); go_simp; (try with_reducible rfl); done)); try simp only [Act.put, List.setIfInBounds_toArray, List.set_cons_zero, List.set_cons_succ, List.getElem_toArray, List.getElem_cons_zero, List.getElem_cons_succ])
    (refine wpAnyH_take (i := 8) (v := ?_) rfl (by kernel_rfl) (by kernel_rfl) (by kernel_rfl) (fun _ _ _ h => h) (Or.inl ⟨by rfl, ?_⟩) (by assumption) ?_; rotate_left 1; (focus (intro w' hSw; (try dsimp only at hSw); go_simp; (try with_reducible rfl); done)); try simp only [Act.put, List.setIfInBounds_toArray, List.set_cons_zero, List.set_cons_succ, List.getElem_toArray, List.getElem_cons_zero, List.getElem_cons_succ])
    refine wpAnyH_ready (rs := [7, 9]) (by kernel_rfl) (by simp) ?_
    refine AllReadyH.cons rfl (fun K hK => ?_) (AllReadyH.cons rfl (fun K hK => ?_) AllReadyH.nil)
    · go_simp
      refine hK.out _ _ ⟨p0, p1, p2, p3, p4⟩ (fun hHeld2 => ?_)
      clear hK K hHeld
      have hHeld := hHeld2
      clear hHeld2
      try simp only [Act.put, List.setIfInBounds_toArray, List.set_cons_zero, List.set_cons_succ, List.getElem_toArray, List.getElem_cons_zero, List.getElem_cons_succ]
      refine wpAnyH_ready (rs := [9]) (by kernel_rfl) (by simp) ?_
      refine AllReadyH.cons rfl (fun K hK => ?_) AllReadyH.nil
      go_simp
      refine hK.out _ _ ⟨a0, a1, a2, a3, a4⟩ (fun hHeld2 => ?_)
      clear hK K hHeld
      have hHeld := hHeld2
      clear hHeld2
      try simp only [Act.put, List.setIfInBounds_toArray, List.set_cons_zero, List.set_cons_succ, List.getElem_toArray, List.getElem_cons_zero, List.getElem_cons_succ]
      refine wpAnyH_ready (rs := [10]) (by kernel_rfl) (by simp) ?_
      refine AllReadyH.cons rfl (fun K hK => ?_) AllReadyH.nil
      rw [if_pos (by rfl)]
      refine wp_append_at _ (.tmp 43) (.tmp 45) 39 rfl V.heap.size 38 i0 _ 5 40 Tryd.underlying39 hi0 hz0 hz1 hz2 rfl (by decide) (.slice Ay q.length cy) q.length (incCells q) rfl HYO2.out ⟨V1.heap.size, 0, none⟩ 1 1 [.int .i64 x0, .int .i64 (b : Int), .int .i64 x2, .int .i64 x3, .int .i64 x4] rfl rfl HN5.out (by simp [Value.oneCell']) HM1.out HM2.out HVV2.out ?_
      intro v' w2 hown hgr hblk
      obtain ⟨A', c', rfl, _⟩ := row_slice hown
      obtain ⟨s5, sf, sz, hr2⟩ := HPUT.out w2 (.slice A' (q.length + 1) c') (q ++ [⟨x0, b, x2, x3, x4⟩]) (grown_left HBA.out hgr) (by rw [incCells_snoc, List.length_append]; exact hown) (hblk.imp id fun h x hx => Nat.le_trans HBA.out.size (h x hx)) rfl
      have s0 := World.grownBy.cell hgr a0 (HNE.out 0)
      have s1 := World.grownBy.cell hgr a1 (HNE.out 1)
      have s2 := World.grownBy.cell hgr a2 (HNE.out 2)
      have s3 := World.grownBy.cell hgr a3 (HNE.out 3)
      have s4 := World.grownBy.cell hgr a4 (HNE.out 4)
      have t0 := (cell_far (w := w2) (t := b) (u := .slice A' (q.length + 1) c') hgw).trans s0
      have t1 := (cell_far (w := w2) (t := b) (u := .slice A' (q.length + 1) c') hgw).trans s1
      have t2 := (cell_far (w := w2) (t := b) (u := .slice A' (q.length + 1) c') hgw).trans s2
      have t3 := (cell_far (w := w2) (t := b) (u := .slice A' (q.length + 1) c') hgw).trans s3
      have t4 := (cell_far (w := w2) (t := b) (u := .slice A' (q.length + 1) c') hgw).trans s4
      refine hK.out _ _ ⟨s0, s1, s2, s3, s4⟩ (fun hHeld2 => ?_)
      clear hK K hHeld
      have hHeld := hHeld2
      clear hHeld2
      try simp only [Act.put, List.setIfInBounds_toArray, List.set_cons_zero, List.set_cons_succ, List.getElem_toArray, List.getElem_cons_zero, List.getElem_cons_succ]
      (refine wpAnyH_take (i := 11) (v := ?_) rfl (by kernel_rfl) (by kernel_rfl) (by kernel_rfl) (fun _ _ _ h => h) (Or.inl ⟨by rfl, ?_⟩) (by assumption) ?_; rotate_left 1; (focus (intro w' hSw; (try dsimp only at hSw); go_simp; (try with_reducible rfl); done)); try simp only [Act.put, List.setIfInBounds_toArray, List.set_cons_zero, List.set_cons_succ, List.getElem_toArray, List.getElem_cons_zero, List.getElem_cons_succ])
      refine wpAnyH_ready (rs := [12]) (by kernel_rfl) (by simp) ?_
      refine AllReadyH.cons rfl (fun K hK => ?_) AllReadyH.nil
      go_simp
      refine hK.out _ _ ⟨t0, t1, t2, t3, t4⟩ (fun hHeld2 => ?_)
      clear hK K hHeld
      have hHeld := hHeld2
      clear hHeld2
      try simp only [Act.put, List.setIfInBounds_toArray, List.set_cons_zero, List.set_cons_succ, List.getElem_toArray, List.getElem_cons_zero, List.getElem_cons_succ]
      refine wpAnyH_done (by kernel_rfl) ?_ _
      have HR2 := Lib.hid (hr2.lower (Nat.le_of_lt hVw))
      have HB5 : Hid (Below w.heap.size w (w2.setCell ⟨g, b, none⟩ (.slice A' (q.length + 1) c'))) := Lib.hid (((below_next HB3.out (Nat.le_refl _) HBA.out).grown hgr HWW.out HRB.out).setCell (p := ⟨g, b, none⟩) (by show w.heap.size ≤ g; omega) _)
      clear hHeld a0 a1 a2 a3 a4 acy hr2 hgr hown hblk s0 s1 s2 s3 s4 s5 t0 t1 t2 t3 t4 sf sz hcy HPUT
      go_wp2
      go_ret2
      exact ⟨_, rfl, HR2.out, HB5.out⟩
    · go_simp
      refine hK.out _ _ ⟨a0, a1, a2, a3, a4⟩ (fun hHeld2 => ?_)
      clear hK K hHeld
      have hHeld := hHeld2
      clear hHeld2
      try simp only [Act.put, List.setIfInBounds_toArray, List.set_cons_zero, List.set_cons_succ, List.getElem_toArray, List.getElem_cons_zero, List.getElem_cons_succ]
      refine wpAnyH_ready (rs := [7]) (by kernel_rfl) (by simp) ?_
      refine AllReadyH.cons rfl (fun K hK => ?_) AllReadyH.nil
      go_simp
      refine hK.out _ _ ⟨a0, a1, a2, a3, a4⟩ (fun hHeld2 => ?_)
      clear hK K hHeld
      have hHeld := hHeld2
      clear hHeld2
      try simp only [Act.put, List.setIfInBounds_toArray, List.set_cons_zero, List.set_cons_succ, List.getElem_toArray, List.getElem_cons_zero, List.getElem_cons_succ]
      refine wpAnyH_ready (rs := [10]) (by kernel_rfl) (by simp) ?_
      refine AllReadyH.cons rfl (fun K hK => ?_) AllReadyH.nil
      rw [if_pos (by rfl)]
      refine wp_append_at _ (.tmp 43) (.tmp 45) 39 rfl V.heap.size 38 i0 _ 5 40 Tryd.underlying39 hi0 hz0 hz1 hz2 rfl (by decide) (.slice Ay q.length cy) q.length (incCells q) rfl HYO2.out ⟨V1.heap.size, 0, none⟩ 1 1 [.int .i64 x0, .int .i64 (b : Int), .int .i64 x2, .int .i64 x3, .int .i64 x4] rfl rfl HN5.out (by simp [Value.oneCell']) HM1.out HM2.out HVV2.out ?_
      intro v' w2 hown hgr hblk
      obtain ⟨A', c', rfl, _⟩ := row_slice hown
      obtain ⟨s5, sf, sz, hr2⟩ := HPUT.out w2 (.slice A' (q.length + 1) c') (q ++ [⟨x0, b, x2, x3, x4⟩]) (grown_left HBA.out hgr) (by rw [incCells_snoc, List.length_append]; exact hown) (hblk.imp id fun h x hx => Nat.le_trans HBA.out.size (h x hx)) rfl
      have s0 := World.grownBy.cell hgr a0 (HNE.out 0)
      have s1 := World.grownBy.cell hgr a1 (HNE.out 1)
      have s2 := World.grownBy.cell hgr a2 (HNE.out 2)
      have s3 := World.grownBy.cell hgr a3 (HNE.out 3)
      have s4 := World.grownBy.cell hgr a4 (HNE.out 4)
      have t0 := (cell_far (w := w2) (t := b) (u := .slice A' (q.length + 1) c') hgw).trans s0
      have t1 := (cell_far (w := w2) (t := b) (u := .slice A' (q.length + 1) c') hgw).trans s1
      have t2 := (cell_far (w := w2) (t := b) (u := .slice A' (q.length + 1) c') hgw).trans s2
      have t3 := (cell_far (w := w2) (t := b) (u := .slice A' (q.length + 1) c') hgw).trans s3
      have t4 := (cell_far (w := w2) (t := b) (u := .slice A' (q.length + 1) c') hgw).trans s4
      refine hK.out _ _ ⟨s0, s1, s2, s3, s4⟩ (fun hHeld2 => ?_)
      clear hK K hHeld
      have hHeld := hHeld2
      clear hHeld2
      try simp only [Act.put, List.setIfInBounds_toArray, List.set_cons_zero, List.set_cons_succ, List.getElem_toArray, List.getElem_cons_zero, List.getElem_cons_succ]
      (refine wpAnyH_take (i := 11) (v := ?_) rfl (by kernel_rfl) (by kernel_rfl) (by kernel_rfl) (fun _ _ _ h => h) (Or.inl ⟨by rfl, ?_⟩) (by assumption) ?_; rotate_left 1; (focus (intro w' hSw; (try dsimp only at hSw); go_simp; (try with_reducible rfl); done)); try simp only [Act.put, List.setIfInBounds_toArray, List.set_cons_zero, List.set_cons_succ, List.getElem_toArray, List.getElem_cons_zero, List.getElem_cons_succ])
      refine wpAnyH_ready (rs := [12]) (by kernel_rfl) (by simp) ?_
      refine AllReadyH.cons rfl (fun K hK => ?_) AllReadyH.nil
      go_simp
      refine hK.out _ _ ⟨t0, t1, t2, t3, t4⟩ (fun hHeld2 => ?_)
      clear hK K hHeld
      have hHeld := hHeld2
      clear hHeld2
      try simp only [Act.put, List.setIfInBounds_toArray, List.set_cons_zero, List.set_cons_succ, List.getElem_toArray, List.getElem_cons_zero, List.getElem_cons_succ]
      refine wpAnyH_done (by kernel_rfl) ?_ _
      have HR2 := Lib.hid (hr2.lower (Nat.le_of_lt hVw))
      have HB5 : Hid (Below w.heap.size w (w2.setCell ⟨g, b, none⟩ (.slice A' (q.length + 1) c'))) := Lib.hid (((below_next HB3.out (Nat.le_refl _) HBA.out).grown hgr HWW.out HRB.out).setCell (p := ⟨g, b, none⟩) (by show w.heap.size ≤ g; omega) _)
      clear hHeld a0 a1 a2 a3 a4 acy hr2 hgr hown hblk s0 s1 s2 s3 s4 s5 t0 t1 t2 t3 t4 sf sz hcy HPUT
      go_wp2
      go_ret2
      exact ⟨_, rfl, HR2.out, HB5.out⟩

end Go.Proofs.YtmhbbjbbckdlbaaDoor
