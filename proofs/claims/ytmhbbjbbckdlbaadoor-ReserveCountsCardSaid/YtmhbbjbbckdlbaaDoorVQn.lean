/-
  Queue of the statements' maker, for any number of belts.
-/
import Derived.Test.YtmhbbjbbckdlbaaDoorQAll
namespace Go.Proofs.YtmhbbjbbckdlbaaDoor
open Go.RowKit
set_option maxRecDepth 100000
set_option linter.unusedVariables false

def qN (m : Nat) (I : List IncR) : List (List IncR) := (List.range m).map fun (b : Nat) => I.filter fun i => i.bt == (b : Int)
theorem qN_len (m : Nat) (I : List IncR) : (qN m I).length = m := by simp [qN]
theorem qN_get {m : Nat} {I : List IncR} {b : Nat} (h : b < m) : (qN m I)[b]? = some (I.filter fun i => i.bt == (b : Int)) := by
  unfold qN
  rw [List.getElem?_map, List.getElem?_range h]
  rfl
theorem qN_next {m : Nat} {I : List IncR} {t b : Nat} {i : IncR} (hi : I[t]? = some i) (hb : i.bt = b) (h : b < m) : qN m (I.take (t + 1)) = (qN m (I.take t)).set b ((I.take t).filter (fun x => x.bt == (b : Int)) ++ [i]) := by
  have e : I.take (t + 1) = I.take t ++ [i] := by rw [List.take_add_one, hi]; rfl
  refine List.ext_getElem? fun j => ?_
  by_cases hj : j < m
  · rw [qN_get hj, e, List.filter_append]
    by_cases hjb : j = b
    · subst hjb
      rw [List.getElem?_set_self (by rw [qN_len]; exact hj)]
      simp [hb]
    · rw [List.getElem?_set_ne (fun x => hjb x.symm), qN_get hj]
      have : ¬ (i.bt = (j : Int)) := by omega
      simp [this]
  · rw [List.getElem?_eq_none (by rw [qN_len]; omega), List.getElem?_eq_none (by simp [qN]; omega)]
theorem qN_flat {m : Nat} {I : List IncR} (hm : 3 ≤ m) (h : ∀ i ∈ I, 0 ≤ i.bt ∧ i.bt < 3) : (qN m I).flatten = (qOf I).flatten := by
  obtain ⟨k, rfl⟩ : ∃ k, m = 3 + k := ⟨m - 3, by omega⟩
  have e : qN (3 + k) I = qOf I ++ List.replicate k [] := by
    refine List.ext_getElem? fun j => ?_
    by_cases hj : j < 3
    · rw [qN_get (by omega), List.getElem?_append_left (by rw [qOf_len]; exact hj), qOf_get hj]
    · rw [List.getElem?_append_right (by rw [qOf_len]; omega), qOf_len]
      by_cases hk : j < 3 + k
      · rw [qN_get hk, List.getElem?_replicate, if_pos (by omega)]
        congr 1
        refine List.filter_eq_nil_iff.2 fun i hi => ?_
        have := h i hi
        simp
        omega
      · rw [List.getElem?_eq_none (by rw [qN_len]; omega), List.getElem?_replicate, if_neg (by omega)]
  rw [e, List.flatten_append]
  have : (List.replicate k ([] : List IncR)).flatten = [] := by
    rw [List.flatten_eq_nil_iff]
    intro l hl
    exact List.eq_of_mem_replicate hl
  rw [this, List.append_nil]

set_option maxHeartbeats 4000000 in
theorem queueN_any (m : Nat) (hm0 : 1 ≤ m) (hm8 : m ≤ 8) (Al : Option Addr) (cl : Nat) (I : List IncR) (w : World) (hL : LArr w (Lt w.heap.size) Al cl I) (hI : ∀ i ∈ I, 0 ≤ i.bt ∧ i.bt < m) (hn : I.length ≤ 400) :
    Calls Tryd.prog 28 #[.slice Al I.length cl, .int .i64 (m : Int)] w (GivesBelts (qN m I) w) := by
  obtain ⟨j0, hj0, hy0, hy1, hy2⟩ := info_parts rows_info
  obtain ⟨i0, hi0, hz0, hz1, hz2⟩ := info_parts inc_info
  have HL := Lib.hid hL
  have HI := Lib.hid hI
  clear hL hI
  go_enter Tryd.func28, Tryd.ntmps28
  go_wp2_with (refine wpList_make_full _ rfl _ _ 32 rfl w.heap.size 39 j0 _ 1 Tryd.underlying32 hj0 hy0 hy1 _ _ _ _ m rfl rfl rfl rfl (by rw [hy2]; omega) (by simp only [maxLen]; omega) (Nat.le_refl _) ?_)
  intro w1 hown hgr
  have R0 := Lib.hid (show Rows2 w1 w.heap.size (.slice (some ⟨w.heap.size, 0, none⟩) m m) (qN m (I.take 0)) by
    rw [show qN m (I.take 0) = List.replicate m [] by simp [qN, List.map_const']]
    refine Rows2.made ?_
    rw [toList_madeCells_one] at hown
    exact hown)
  have HB0 := Lib.hid ((Below.refl w.heap.size w).grown hgr (Nat.le_refl _) (by simp))
  clear hown hgr
  go_wp2_with fail
  go_loopw [12] (fun i wr => ∃ t : Nat, t ≤ I.length ∧ i = .int .i64 t ∧ Rows2 wr w.heap.size (.slice (some ⟨w.heap.size, 0, none⟩) m m) (qN m (I.take t)) ∧ Below w.heap.size w wr) (fun i _ => I.length - (intOf i).toNat)
  case atStart => exact ⟨0, by omega, rfl, R0.out, HB0.out⟩
  case round =>
    obtain ⟨t, ht, rfl, hr, hb⟩ := hrel
    obtain ⟨W0, hW0⟩ : ∃ W0, W0 = wr := ⟨_, rfl⟩
    subst hW0
    have HR := Lib.hid hr
    have HB := Lib.hid hb
    clear hr hb
    by_cases hlt : t < I.length
    · have hlt2 : 0 ≤ (t : Int) ∧ (t : Int) < I.length := by omega
      obtain ⟨i, hi⟩ := nth_of hlt
      obtain ⟨bi, oi, rfl, hP, hbz, d0, d1, d2, d3, d4⟩ := (HL.out.below HB.out).at_ hi
      have hib := HI.out i (List.mem_iff_getElem?.2 ⟨t, hi⟩)
      obtain ⟨b, hbt⟩ : ∃ b : Nat, i.bt = b := ⟨i.bt.toNat, by omega⟩
      have hb3 : b < m := by omega
      obtain ⟨q, hq⟩ : ∃ q, q = (I.take t).filter (fun x => x.bt == (b : Int)) := ⟨_, rfl⟩
      have hql : q.length ≤ 400 := by
        have := List.length_filter_le (fun x : IncR => x.bt == (b : Int)) (I.take t)
        rw [hq]
        simp at this ⊢
        omega
      obtain ⟨x0, hx0⟩ : ∃ x, x = i.sq := ⟨_, rfl⟩
      obtain ⟨x2, hx2⟩ : ∃ x, x = i.fi := ⟨_, rfl⟩
      obtain ⟨x3, hx3⟩ : ∃ x, x = i.la := ⟨_, rfl⟩
      obtain ⟨x4, hx4⟩ : ∃ x, x = i.wo := ⟨_, rfl⟩
      have HQN : Hid (qN m (I.take (t + 1)) = (qN m (I.take t)).set b (q ++ [⟨x0, b, x2, x3, x4⟩])) := Lib.hid (by
        rw [qN_next hi hbt hb3, hq, hx0, hx2, hx3, hx4, ← hbt])
      rw [← hx0] at d0
      rw [hbt] at d1
      rw [← hx2] at d2
      rw [← hx3] at d3
      rw [← hx4] at d4
      have HGQ := Lib.hid (show (qN m (I.take t))[b]? = some q by rw [hq]; exact qN_get hb3)
      obtain ⟨V, hV⟩ : ∃ V, V = W0.alloc (.cells #[.int .i64 x0, .int .i64 (b : Int), .int .i64 x2, .int .i64 x3, .int .i64 x4] 38) := ⟨_, rfl⟩
      have hbV : Below W0.heap.size W0 V := by rw [hV]; exact (Below.refl _ _).alloc (Nat.le_refl _) _
      have BIV := (show Blk V W0.heap.size 38 #[.int .i64 x0, .int .i64 (b : Int), .int .i64 x2, .int .i64 x3, .int .i64 x4] by rw [hV]; exact Blk.new _ _ _)
      have HBV : Hid (Below w.heap.size w V) := below_next HB.out (Nat.le_refl _) hbV
      have HVV := Lib.hid hV
      obtain ⟨g, cap, y, e, _, hgl, hcy, hyo, hput⟩ := (HR.out.below hbV).get HGQ.out
      have eg := e
      clear e
      injection eg with e1 e2 e3
      injection e1 with e1
      injection e1 with e1 e4 e5
      subst e1
      clear e2 e3
      obtain ⟨Ay, cy, rfl, _⟩ := row_slice hyo
      have HPUT := Lib.hid hput
      have hWV : W0.heap.size < V.heap.size := BIV.lt
      have hww : w.heap.size ≤ V.heap.size := HBV.out.size
      obtain ⟨g2, cap2, y2, eg2, _, _, hcy2, hyo2, _⟩ := HR.out.get HGQ.out
      have HNE : Hid (∀ j, some (⟨W0.heap.size, j, none⟩ : Addr).block ≠ (Value.slice Ay q.length cy).ownBlock) := Lib.hid fun j e => by
        injection eg2 with f1 f2 f3
        injection f1 with f1
        injection f1 with f1 f4 f5
        subst f1
        have h1 : V.cell? ⟨w.heap.size, b, none⟩ = some y2 := by
          rw [hbV.cell (p := ⟨w.heap.size, b, none⟩) (cell_lt hcy2)]; exact hcy2
        rw [hcy] at h1
        injection h1 with h1
        subst h1
        have := (hyo2.lt _ e.symm).2
        simp at this
      have HRB : Hid (∀ k, (Value.slice Ay q.length cy).ownBlock = some k → w.heap.size ≤ k) := Lib.hid fun k hk => (hyo.lt k hk).1
      have HYO2 : Hid ((V.drew.alloc (.cells #[.int .i64 x0, .int .i64 (b : Int), .int .i64 x2, .int .i64 x3, .int .i64 x4] 38)).ownsRow w.heap.size 38 5 (.slice Ay q.length cy) q.length (incCells q)) := Lib.hid (World.ownsRow.alloc (show V.drew.ownsRow _ _ _ _ _ _ from hyo) _)
      have HN5 : Hid (∀ (j : Nat) (u : Value), [Value.int .i64 x0, .int .i64 (b : Int), .int .i64 x2, .int .i64 x3, .int .i64 x4][j]? = some u → (V.drew.alloc (.cells #[.int .i64 x0, .int .i64 (b : Int), .int .i64 x2, .int .i64 x3, .int .i64 x4] 38)).cell? ((⟨V.heap.size, 0, none⟩ : Addr).add j) = some u) := Lib.hid (five_news (by go_simp) (by go_simp) (by go_simp) (by go_simp) (by go_simp))
      have HBA : Hid (Below V.heap.size V (V.drew.alloc (.cells #[.int .i64 x0, .int .i64 (b : Int), .int .i64 x2, .int .i64 x3, .int .i64 x4] 38))) := Lib.hid (((Below.refl V.heap.size V).drew).alloc (Nat.le_refl _) _)
      have HM1 := Lib.hid (show q.length + 1 ≤ maxLen by simp only [maxLen]; omega)
      have HM2 := Lib.hid (show (q.length + 1) * 40 ≤ 140737488355328 by omega)
      have HWW := Lib.hid (show w.heap.size ≤ (V.drew.alloc (.cells #[.int .i64 x0, .int .i64 (b : Int), .int .i64 x2, .int .i64 x3, .int .i64 x4] 38)).heap.size by simp; omega)
      have hbi : 0 ≤ (b : Int) ∧ (b : Int) < m := by omega
      have hb3i : (b : Int) < m := by omega
      have p0 := BIV.cell 0
      have p1 := BIV.cell 1
      have p2 := BIV.cell 2
      have p3 := BIV.cell 3
      have p4 := BIV.cell 4
      simp at p0 p1 p2 p3 p4
      have zi := hWV
      have hgw : W0.heap.size ≠ w.heap.size := by have := HR.out.size_lt; omega
      have a0 := Lib.cell?_alloc_some (.cells #[.int .i64 x0, .int .i64 (b : Int), .int .i64 x2, .int .i64 x3, .int .i64 x4] 38) (show V.drew.cell? ⟨W0.heap.size, 0, none⟩ = _ from p0)
      have a1 := Lib.cell?_alloc_some (.cells #[.int .i64 x0, .int .i64 (b : Int), .int .i64 x2, .int .i64 x3, .int .i64 x4] 38) (show V.drew.cell? ⟨W0.heap.size, 1, none⟩ = _ from p1)
      have a2 := Lib.cell?_alloc_some (.cells #[.int .i64 x0, .int .i64 (b : Int), .int .i64 x2, .int .i64 x3, .int .i64 x4] 38) (show V.drew.cell? ⟨W0.heap.size, 2, none⟩ = _ from p2)
      have a3 := Lib.cell?_alloc_some (.cells #[.int .i64 x0, .int .i64 (b : Int), .int .i64 x2, .int .i64 x3, .int .i64 x4] 38) (show V.drew.cell? ⟨W0.heap.size, 3, none⟩ = _ from p3)
      have a4 := Lib.cell?_alloc_some (.cells #[.int .i64 x0, .int .i64 (b : Int), .int .i64 x2, .int .i64 x3, .int .i64 x4] 38) (show V.drew.cell? ⟨W0.heap.size, 4, none⟩ = _ from p4)
      have acy := Lib.cell?_alloc_some (.cells #[.int .i64 x0, .int .i64 (b : Int), .int .i64 x2, .int .i64 x3, .int .i64 x4] 38) (show V.drew.cell? ⟨w.heap.size, b, none⟩ = _ from hcy)
      clear hput hyo hyo2 hcy2 eg2 hV hbV BIV hi hP hbt hq hx0 hx2 hx3 hx4
      go_wp2_with fail
      rw [← HVV.out]
      clear d0 d1 d2 d3 d4
      refine wp_region_held_drew (S := (fun w' => w'.cell? ⟨W0.heap.size, 0, none⟩ = some (.int .i64 x0) ∧ w'.cell? ⟨W0.heap.size, 1, none⟩ = some (.int .i64 (b : Int)) ∧ w'.cell? ⟨W0.heap.size, 2, none⟩ = some (.int .i64 x2) ∧ w'.cell? ⟨W0.heap.size, 3, none⟩ = some (.int .i64 x3) ∧ w'.cell? ⟨W0.heap.size, 4, none⟩ = some (.int .i64 x4))) (by kernel_rfl) ?_ (fun hHeld => ?_)
      · exact ⟨p0, p1, p2, p3, p4⟩
      (refine wpAnyH_take (i := 0) (v := ?_) rfl (by kernel_rfl) (by kernel_rfl) (by kernel_rfl) (fun _ _ _ h => h) (Or.inl ⟨by rfl, ?_⟩) (by assumption) ?_; rotate_left 1; (focus (intro w' hSw; (try dsimp only at hSw); go_simp; (try with_reducible rfl); done)); try simp only [Act.put, List.setIfInBounds_toArray, List.set_cons_zero, List.set_cons_succ, List.getElem_toArray, List.getElem_cons_zero])
      (refine wpAnyH_take (i := 1) (v := ?_) rfl (by kernel_rfl) (by kernel_rfl) (by kernel_rfl) (fun _ _ _ h => h) (Or.inl ⟨by rfl, ?_⟩) (by assumption) ?_; rotate_left 1; (focus (intro w' hSw; (try dsimp only at hSw); go_simp; (try with_reducible rfl); done)); try simp only [Act.put, List.setIfInBounds_toArray, List.set_cons_zero, List.set_cons_succ, List.getElem_toArray, List.getElem_cons_zero, List.getElem_cons_succ])
      (refine wpAnyH_take (i := 2) (v := ?_) rfl (by kernel_rfl) (by kernel_rfl) (by kernel_rfl) (fun _ _ _ h => h) (Or.inl ⟨by rfl, ?_⟩) (by assumption) ?_; rotate_left 1; (focus (intro w' hSw; (try dsimp only at hSw); go_simp; (try with_reducible rfl); done)); try simp only [Act.put, List.setIfInBounds_toArray, List.set_cons_zero, List.set_cons_succ, List.getElem_toArray, List.getElem_cons_zero, List.getElem_cons_succ])
      (refine wpAnyH_take (i := 3) (v := ?_) rfl (by kernel_rfl) (by kernel_rfl) (by kernel_rfl) (fun _ _ _ h => h) (Or.inl ⟨by rfl, ?_⟩) (by assumption) ?_; rotate_left 1; (focus (intro w' hSw; (try dsimp only at hSw); go_simp; (try with_reducible rfl); done)); try simp only [Act.put, List.setIfInBounds_toArray, List.set_cons_zero, List.set_cons_succ, List.getElem_toArray, List.getElem_cons_zero, List.getElem_cons_succ])
      (refine wpAnyH_take (i := 4) (v := ?_) rfl (by kernel_rfl) (by kernel_rfl) (by kernel_rfl) (fun _ _ _ h => h) (Or.inl ⟨by rfl, ?_⟩) (by assumption) ?_; rotate_left 1; (focus (intro w' hSw; (try dsimp only at hSw); go_simp; (try with_reducible rfl); done)); try simp only [Act.put, List.setIfInBounds_toArray, List.set_cons_zero, List.set_cons_succ, List.getElem_toArray, List.getElem_cons_zero, List.getElem_cons_succ])
      (refine wpAnyH_take (i := 5) (v := ?_) rfl (by kernel_rfl) (by kernel_rfl) (by kernel_rfl) (fun _ _ _ h => h) (Or.inl ⟨by rfl, ?_⟩) (by assumption) ?_; rotate_left 1; (focus (intro w' hSw; (try dsimp only at hSw); go_simp; (try with_reducible rfl); done)); try simp only [Act.put, List.setIfInBounds_toArray, List.set_cons_zero, List.set_cons_succ, List.getElem_toArray, List.getElem_cons_zero, List.getElem_cons_succ])
      (refine wpAnyH_take (i := 6) (v := ?_) rfl (by kernel_rfl) (by kernel_rfl) (by kernel_rfl) (fun _ _ _ h => h) (Or.inl ⟨by rfl, ?_⟩) (by assumption) ?_; rotate_left 1; (focus (intro w' hSw; (try dsimp only at hSw); go_simp; (try with_reducible rfl); done)); try simp only [Act.put, List.setIfInBounds_toArray, List.set_cons_zero, List.set_cons_succ, List.getElem_toArray, List.getElem_cons_zero, List.getElem_cons_succ])
      (refine wpAnyH_take (i := 8) (v := ?_) rfl (by kernel_rfl) (by kernel_rfl) (by kernel_rfl) (fun _ _ _ h => h) (Or.inl ⟨by rfl, ?_⟩) (by assumption) ?_; rotate_left 1; (focus (intro w' hSw; (try dsimp only at hSw); go_simp; (try with_reducible rfl); done)); try simp only [Act.put, List.setIfInBounds_toArray, List.set_cons_zero, List.set_cons_succ, List.getElem_toArray, List.getElem_cons_zero, List.getElem_cons_succ])
      refine wpAnyH_ready (rs := [7, 9]) (by kernel_rfl) (by simp) ?_
      refine AllReadyH.cons rfl (fun K hK => ?_) (AllReadyH.cons rfl (fun K hK => ?_) AllReadyH.nil)
      · go_simp
        refine hK.out _ _ ⟨p0, p1, p2, p3, p4⟩ (fun hHeld2 => ?_)
        clear hK K hHeld
        have hHeld := hHeld2
        clear hHeld2
        try simp only [Act.put, List.setIfInBounds_toArray, List.set_cons_zero, List.set_cons_succ, List.getElem_toArray, List.getElem_cons_zero, List.getElem_cons_succ]
        refine wpAnyH_ready (rs := [9]) (by kernel_rfl) (by simp) ?_
        refine AllReadyH.cons rfl (fun K hK => ?_) AllReadyH.nil
        go_simp
        refine hK.out _ _ ⟨a0, a1, a2, a3, a4⟩ (fun hHeld2 => ?_)
        clear hK K hHeld
        have hHeld := hHeld2
        clear hHeld2
        try simp only [Act.put, List.setIfInBounds_toArray, List.set_cons_zero, List.set_cons_succ, List.getElem_toArray, List.getElem_cons_zero, List.getElem_cons_succ]
        refine wpAnyH_ready (rs := [10]) (by kernel_rfl) (by simp) ?_
        refine AllReadyH.cons rfl (fun K hK => ?_) AllReadyH.nil
        rw [if_pos (by rfl)]
        refine wp_append_at _ (.tmp 27) (.tmp 29) 39 rfl w.heap.size 38 i0 _ 5 40 Tryd.underlying39 hi0 hz0 hz1 hz2 rfl (by decide) (.slice Ay q.length cy) q.length (incCells q) rfl HYO2.out ⟨V.heap.size, 0, none⟩ 1 1 [.int .i64 x0, .int .i64 (b : Int), .int .i64 x2, .int .i64 x3, .int .i64 x4] rfl rfl HN5.out (by simp [Value.oneCell']) HM1.out HM2.out HWW.out ?_
        intro v' w2 hown hgr hblk
        obtain ⟨A', c', rfl, _⟩ := row_slice hown
        obtain ⟨s5, sf, sz, hr2⟩ := HPUT.out w2 (.slice A' (q.length + 1) c') (q ++ [⟨x0, b, x2, x3, x4⟩]) (grown_left HBA.out hgr) (by rw [incCells_snoc, List.length_append]; exact hown) (hblk.imp id fun h x hx => Nat.le_trans HBA.out.size (h x hx)) rfl
        have s0 := World.grownBy.cell hgr a0 (HNE.out 0)
        have s1 := World.grownBy.cell hgr a1 (HNE.out 1)
        have s2 := World.grownBy.cell hgr a2 (HNE.out 2)
        have s3 := World.grownBy.cell hgr a3 (HNE.out 3)
        have s4 := World.grownBy.cell hgr a4 (HNE.out 4)
        have t0 := (cell_far (w := w2) (t := b) (u := .slice A' (q.length + 1) c') hgw).trans s0
        have t1 := (cell_far (w := w2) (t := b) (u := .slice A' (q.length + 1) c') hgw).trans s1
        have t2 := (cell_far (w := w2) (t := b) (u := .slice A' (q.length + 1) c') hgw).trans s2
        have t3 := (cell_far (w := w2) (t := b) (u := .slice A' (q.length + 1) c') hgw).trans s3
        have t4 := (cell_far (w := w2) (t := b) (u := .slice A' (q.length + 1) c') hgw).trans s4
        refine hK.out _ _ ⟨s0, s1, s2, s3, s4⟩ (fun hHeld2 => ?_)
        clear hK K hHeld
        have hHeld := hHeld2
        clear hHeld2
        try simp only [Act.put, List.setIfInBounds_toArray, List.set_cons_zero, List.set_cons_succ, List.getElem_toArray, List.getElem_cons_zero, List.getElem_cons_succ]
        (refine wpAnyH_take (i := 11) (v := ?_) rfl (by kernel_rfl) (by kernel_rfl) (by kernel_rfl) (fun _ _ _ h => h) (Or.inl ⟨by rfl, ?_⟩) (by assumption) ?_; rotate_left 1; (focus (intro w' hSw; (try dsimp only at hSw); go_simp; (try with_reducible rfl); done)); try simp only [Act.put, List.setIfInBounds_toArray, List.set_cons_zero, List.set_cons_succ, List.getElem_toArray, List.getElem_cons_zero, List.getElem_cons_succ])
        refine wpAnyH_ready (rs := [12]) (by kernel_rfl) (by simp) ?_
        refine AllReadyH.cons rfl (fun K hK => ?_) AllReadyH.nil
        go_simp
        refine hK.out _ _ ⟨t0, t1, t2, t3, t4⟩ (fun hHeld2 => ?_)
        clear hK K hHeld
        have hHeld := hHeld2
        clear hHeld2
        try simp only [Act.put, List.setIfInBounds_toArray, List.set_cons_zero, List.set_cons_succ, List.getElem_toArray, List.getElem_cons_zero, List.getElem_cons_succ]
        refine wpAnyH_done (by kernel_rfl) ?_ _
        have HR2 : Hid (Rows2 (w2.setCell ⟨w.heap.size, b, none⟩ (.slice A' (q.length + 1) c')) w.heap.size (.slice (some ⟨w.heap.size, 0, none⟩) m m) (qN m (I.take (t + 1)))) := Lib.hid (by rw [HQN.out]; exact hr2)
        have HB5 : Hid (Below w.heap.size w (w2.setCell ⟨w.heap.size, b, none⟩ (.slice A' (q.length + 1) c'))) := Lib.hid (((below_next HBV.out (Nat.le_refl _) HBA.out).grown hgr HWW.out HRB.out).setCell (p := ⟨w.heap.size, b, none⟩) (Nat.le_refl _) _)
        clear hHeld a0 a1 a2 a3 a4 acy hr2 hgr hown hblk s0 s1 s2 s3 s4 s5 t0 t1 t2 t3 t4 sf sz hcy HPUT
        go_wp2
        exact ⟨⟨t + 1, by omega, by go_num, HR2.out, HB5.out⟩, by simp [intOf]; omega⟩
      · go_simp
        refine hK.out _ _ ⟨a0, a1, a2, a3, a4⟩ (fun hHeld2 => ?_)
        clear hK K hHeld
        have hHeld := hHeld2
        clear hHeld2
        try simp only [Act.put, List.setIfInBounds_toArray, List.set_cons_zero, List.set_cons_succ, List.getElem_toArray, List.getElem_cons_zero, List.getElem_cons_succ]
        refine wpAnyH_ready (rs := [7]) (by kernel_rfl) (by simp) ?_
        refine AllReadyH.cons rfl (fun K hK => ?_) AllReadyH.nil
        go_simp
        refine hK.out _ _ ⟨a0, a1, a2, a3, a4⟩ (fun hHeld2 => ?_)
        clear hK K hHeld
        have hHeld := hHeld2
        clear hHeld2
        try simp only [Act.put, List.setIfInBounds_toArray, List.set_cons_zero, List.set_cons_succ, List.getElem_toArray, List.getElem_cons_zero, List.getElem_cons_succ]
        refine wpAnyH_ready (rs := [10]) (by kernel_rfl) (by simp) ?_
        refine AllReadyH.cons rfl (fun K hK => ?_) AllReadyH.nil
        rw [if_pos (by rfl)]
        refine wp_append_at _ (.tmp 27) (.tmp 29) 39 rfl w.heap.size 38 i0 _ 5 40 Tryd.underlying39 hi0 hz0 hz1 hz2 rfl (by decide) (.slice Ay q.length cy) q.length (incCells q) rfl HYO2.out ⟨V.heap.size, 0, none⟩ 1 1 [.int .i64 x0, .int .i64 (b : Int), .int .i64 x2, .int .i64 x3, .int .i64 x4] rfl rfl HN5.out (by simp [Value.oneCell']) HM1.out HM2.out HWW.out ?_
        intro v' w2 hown hgr hblk
        obtain ⟨A', c', rfl, _⟩ := row_slice hown
        obtain ⟨s5, sf, sz, hr2⟩ := HPUT.out w2 (.slice A' (q.length + 1) c') (q ++ [⟨x0, b, x2, x3, x4⟩]) (grown_left HBA.out hgr) (by rw [incCells_snoc, List.length_append]; exact hown) (hblk.imp id fun h x hx => Nat.le_trans HBA.out.size (h x hx)) rfl
        have s0 := World.grownBy.cell hgr a0 (HNE.out 0)
        have s1 := World.grownBy.cell hgr a1 (HNE.out 1)
        have s2 := World.grownBy.cell hgr a2 (HNE.out 2)
        have s3 := World.grownBy.cell hgr a3 (HNE.out 3)
        have s4 := World.grownBy.cell hgr a4 (HNE.out 4)
        have t0 := (cell_far (w := w2) (t := b) (u := .slice A' (q.length + 1) c') hgw).trans s0
        have t1 := (cell_far (w := w2) (t := b) (u := .slice A' (q.length + 1) c') hgw).trans s1
        have t2 := (cell_far (w := w2) (t := b) (u := .slice A' (q.length + 1) c') hgw).trans s2
        have t3 := (cell_far (w := w2) (t := b) (u := .slice A' (q.length + 1) c') hgw).trans s3
        have t4 := (cell_far (w := w2) (t := b) (u := .slice A' (q.length + 1) c') hgw).trans s4
        refine hK.out _ _ ⟨s0, s1, s2, s3, s4⟩ (fun hHeld2 => ?_)
        clear hK K hHeld
        have hHeld := hHeld2
        clear hHeld2
        try simp only [Act.put, List.setIfInBounds_toArray, List.set_cons_zero, List.set_cons_succ, List.getElem_toArray, List.getElem_cons_zero, List.getElem_cons_succ]
        (refine wpAnyH_take (i := 11) (v := ?_) rfl (by kernel_rfl) (by kernel_rfl) (by kernel_rfl) (fun _ _ _ h => h) (Or.inl ⟨by rfl, ?_⟩) (by assumption) ?_; rotate_left 1; (focus (intro w' hSw; (try dsimp only at hSw); go_simp; (try with_reducible rfl); done)); try simp only [Act.put, List.setIfInBounds_toArray, List.set_cons_zero, List.set_cons_succ, List.getElem_toArray, List.getElem_cons_zero, List.getElem_cons_succ])
        refine wpAnyH_ready (rs := [12]) (by kernel_rfl) (by simp) ?_
        refine AllReadyH.cons rfl (fun K hK => ?_) AllReadyH.nil
        go_simp
        refine hK.out _ _ ⟨t0, t1, t2, t3, t4⟩ (fun hHeld2 => ?_)
        clear hK K hHeld
        have hHeld := hHeld2
        clear hHeld2
        try simp only [Act.put, List.setIfInBounds_toArray, List.set_cons_zero, List.set_cons_succ, List.getElem_toArray, List.getElem_cons_zero, List.getElem_cons_succ]
        refine wpAnyH_done (by kernel_rfl) ?_ _
        have HR2 : Hid (Rows2 (w2.setCell ⟨w.heap.size, b, none⟩ (.slice A' (q.length + 1) c')) w.heap.size (.slice (some ⟨w.heap.size, 0, none⟩) m m) (qN m (I.take (t + 1)))) := Lib.hid (by rw [HQN.out]; exact hr2)
        have HB5 : Hid (Below w.heap.size w (w2.setCell ⟨w.heap.size, b, none⟩ (.slice A' (q.length + 1) c'))) := Lib.hid (((below_next HBV.out (Nat.le_refl _) HBA.out).grown hgr HWW.out HRB.out).setCell (p := ⟨w.heap.size, b, none⟩) (Nat.le_refl _) _)
        clear hHeld a0 a1 a2 a3 a4 acy hr2 hgr hown hblk s0 s1 s2 s3 s4 s5 t0 t1 t2 t3 t4 sf sz hcy HPUT
        go_wp2
        exact ⟨⟨t + 1, by omega, by go_num, HR2.out, HB5.out⟩, by simp [intOf]; omega⟩
    · have hlt2 : ¬ (t : Int) < I.length := by omega
      obtain rfl : t = I.length := by omega
      have HR2 : Hid (Rows2 W0 w.heap.size (.slice (some ⟨w.heap.size, 0, none⟩) m m) (qN m I)) := Lib.hid (by have h := HR.out; rwa [List.take_length] at h)
      go_wp2
      go_ret
      exact ⟨_, rfl, HR2.out, rfl, HB.out⟩
end Go.Proofs.YtmhbbjbbckdlbaaDoor
