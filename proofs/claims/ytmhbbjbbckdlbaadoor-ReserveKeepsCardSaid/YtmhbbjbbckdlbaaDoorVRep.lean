/-
  An increment stored into belts of the call's own; the reference's Replace.
-/
import Derived.Test.YtmhbbjbbckdlbaaDoorVBlt
import Derived.Deep.RegionHeld3
namespace Go.Proofs.YtmhbbjbbckdlbaaDoor
open Go.RowKit
set_option maxRecDepth 100000
set_option linter.unusedVariables false

def IncR.cs (i : IncR) : List Value := [.int .i64 i.sq, .int .i64 i.bt, .int .i64 i.fi, .int .i64 i.la, .int .i64 i.wo]
theorem IncR.cs_len (i : IncR) : i.cs.length = 5 := rfl
theorem incCells_cons (a : IncR) (l : List IncR) : incCells (a :: l) = a.cs ++ incCells l := by simp [incCells, IncR.cs]
theorem incCells_set : ∀ (q : List IncR) (k : Nat) (i : IncR) (x : Nat), k < q.length → (incCells (q.set k i))[x]? = if k * 5 ≤ x ∧ x < k * 5 + 5 then i.cs[x - k * 5]? else (incCells q)[x]?
  | [], k, i, x, h => by simp at h
  | a :: l, 0, i, x, h => by
    rw [List.set_cons_zero, incCells_cons, incCells_cons]
    by_cases hx : x < 5
    · rw [if_pos (by omega), List.getElem?_append_left (by rw [IncR.cs_len]; exact hx)]
      simp
    · rw [if_neg (by omega), List.getElem?_append_right (by rw [IncR.cs_len]; omega), List.getElem?_append_right (by rw [IncR.cs_len]; omega), IncR.cs_len, IncR.cs_len]
  | a :: l, k + 1, i, x, h => by
    rw [List.set_cons_succ, incCells_cons, incCells_cons]
    by_cases hx : x < 5
    · rw [if_neg (by omega), List.getElem?_append_left (by rw [IncR.cs_len]; exact hx), List.getElem?_append_left (by rw [IncR.cs_len]; exact hx)]
    · rw [List.getElem?_append_right (by rw [IncR.cs_len]; omega), List.getElem?_append_right (by rw [IncR.cs_len]; omega), IncR.cs_len, incCells_set l k i (x - 5) (by simpa using h)]
      by_cases hk : (k + 1) * 5 ≤ x ∧ x < (k + 1) * 5 + 5
      · rw [if_pos (by omega), if_pos hk]
        congr 1
        omega
      · rw [if_neg (by omega), if_neg hk]
/-- An increment of an own row of belts is written over. -/
theorem Rows2.store {w : World} {lo b k : Nat} {v : Value} {Q : List (List IncR)} {q : List IncR} (h : Rows2 w lo v Q) (hb : Q[b]? = some q) (hk : k < q.length) :
    ∃ g cap gy cy, v = .slice (some ⟨g, 0, none⟩) Q.length cap ∧ lo ≤ g ∧ g < w.heap.size ∧ w.cell? ⟨g, b, none⟩ = some (.slice (some ⟨gy, 0, none⟩) q.length cy) ∧ lo ≤ gy ∧ gy < w.heap.size ∧ g ≠ gy ∧
      (∀ j, j < 5 → (w.cell? ⟨gy, k * 5 + j, none⟩).isSome = true ∧ w.frozen? ⟨gy, k * 5 + j, none⟩ = false) ∧
      ∀ i : IncR, Rows2 (w.setCells gy (k * 5) i.cs) lo v (Q.set b (q.set k i)) := by
  obtain ⟨V, h1, h2, h3⟩ := h
  have hbl := get_lt hb
  have hqb := h2 b q hb
  obtain ⟨hl, ⟨_, h0⟩ | ⟨g, cap, cur, rfl, hlo, hg, hc, hm, hs, htk⟩⟩ := h1
  · omega
  obtain ⟨hl2, ⟨_, h0⟩ | ⟨gy, cy, cury, hvy, hloy, hgy, hcy, hmy, hsy, htky⟩⟩ := hqb
  · omega
  have hcur : ∀ j, j < Q.length → cur[j]? = some (V j) := by
    intro j hj
    have e : ((List.range Q.length).map V)[j]? = some (V j) := by rw [List.getElem?_map, List.getElem?_range hj]; rfl
    rw [← htk, List.getElem?_take, if_pos (by omega)] at e
    simpa using e
  have hne : g ≠ gy := fun e => by
    subst e
    rw [hg] at hgy
    injection hgy with hgy
    injection hgy with _ hh _
    exact absurd hh (by decide)
  refine ⟨g, cap, gy, cy, rfl, hlo, blk_lt hg, by rw [cell_row hg, hcur b hbl, hvy], hloy, blk_lt hgy, hne, fun j hj => ⟨?_, free_row hgy⟩, fun i => ⟨V, ?_, fun j r hj => ?_, ?_⟩⟩
  · rw [cell_row hgy]
    have : k * 5 + j < cury.size := by rw [hsy]; omega
    simp [this]
  · rw [List.length_set]
    refine ⟨hl, .inr ⟨g, cap, cur, rfl, hlo, (heap_setCells_far hne _ _ _).trans hg, hc, hm, hs, htk⟩⟩
  · by_cases e : b = j
    · subst e
      rw [List.getElem?_set_self hbl] at hj
      injection hj with hj
      subst hj
      rw [List.length_set, hvy]
      refine ⟨by rw [incCells_length, List.length_set], .inr ⟨gy, cy, putA cury (k * 5) i.cs, rfl, hloy, heap_setCells _ _ _ _ hgy, hcy, hmy, by rw [putA_size]; exact hsy, ?_⟩⟩
      refine List.ext_getElem? fun x => ?_
      rw [List.getElem?_take]
      have hget : (incCells (q.set k i))[x]? = if k * 5 ≤ x ∧ x < k * 5 + 5 then i.cs[x - k * 5]? else (incCells q)[x]? := incCells_set q k i x hk
      by_cases hx : x < q.length * 5
      · rw [if_pos hx, Array.getElem?_toList, putA_get _ _ _ _ (by rw [IncR.cs_len, hsy]; omega), IncR.cs_len, hget]
        by_cases hr : k * 5 ≤ x ∧ x < k * 5 + 5
        · rw [if_pos hr, if_pos hr]
        · rw [if_neg hr, if_neg hr, ← htky, List.getElem?_take, if_pos hx, Array.getElem?_toList]
      · rw [if_neg hx, List.getElem?_eq_none (by rw [incCells_length, List.length_set]; omega)]
    · rw [List.getElem?_set_ne e] at hj
      have hjl := get_lt hj
      refine ownsRow_keep (h2 j r hj) fun x hx hx2 hx3 => heap_setCells_far (fun e2 => ?_) _ _ _
      subst e2
      exact h3 b j x e hbl hjl (by rw [hvy]; rfl) hx
  · intro x y z hxy hx hy
    rw [List.length_set] at hx hy
    exact h3 x y z hxy hx hy

theorem cell_far5 {w : World} {g x j o0 o1 o2 o3 o4 : Nat} {u0 u1 u2 u3 u4 : Value} (h : x ≠ g) : (((((w.setCell ⟨g, o0, none⟩ u0).setCell ⟨g, o1, none⟩ u1).setCell ⟨g, o2, none⟩ u2).setCell ⟨g, o3, none⟩ u3).setCell ⟨g, o4, none⟩ u4).cell? ⟨x, j, none⟩ = w.cell? ⟨x, j, none⟩ := by
  rw [cell_far h, cell_far h, cell_far h, cell_far h, cell_far h]
theorem cell_drew5 (W : World) (a : Addr) : W.drew.cell? a = W.cell? a := rfl
theorem cell_far5d {w : World} {g x j o0 o1 o2 o3 o4 : Nat} {u0 u1 u2 u3 u4 : Value} (h : x ≠ g) : (((((w.setCell ⟨g, o0, none⟩ u0).setCell ⟨g, o1, none⟩ u1).setCell ⟨g, o2, none⟩ u2).setCell ⟨g, o3, none⟩ u3).setCell ⟨g, o4, none⟩ u4).drew.cell? ⟨x, j, none⟩ = w.cell? ⟨x, j, none⟩ := by
  rw [cell_drew5, cell_far5 h]
theorem set5 (w : World) (g o : Nat) (u0 u1 u2 u3 u4 : Value) : w.setCells g o [u0, u1, u2, u3, u4] = ((((w.setCell ⟨g, o, none⟩ u0).setCell ⟨g, o + 1, none⟩ u1).setCell ⟨g, o + 2, none⟩ u2).setCell ⟨g, o + 3, none⟩ u3).setCell ⟨g, o + 4, none⟩ u4 := by
  simp only [World.setCells, Nat.add_assoc]
/-- What Replace gives. -/
def RepOf (Q : List (List IncR)) (b : Nat) (q : List IncR) (i : IncR) (w : World) (e : Ending) (w' : World) : Prop :=
  (∃ (k : Nat) (y : IncR) (v : Value), q[k]? = some y ∧ y.sq = i.sq ∧ (∀ (j : Nat) (z : IncR), j < k → q[j]? = some z → z.sq ≠ i.sq) ∧ e = .returned (.tuple #[v, .int .i64 0]) ∧ Rows2 w' w.heap.size v (Q.set b (q.set k i)) ∧ Below w.heap.size w w') ∨
  ((∀ y ∈ q, y.sq ≠ i.sq) ∧ e = .returned (.tuple #[.slice none 0 0, .int .i64 5]) ∧ Below w.heap.size w w')

set_option maxHeartbeats 4000000 in
theorem refReplace_any (A : Option Addr) (c : Nat) (Q : List (List IncR)) (b : Nat) (q : List IncR) (x0 x2 x3 x4 : Int) (w : World) (hQ : QArr w (Lt w.heap.size) A c Q) (hn : Q.length ≤ 4096) (hqn : ∀ q ∈ Q, q.length ≤ 4000) (hb : Q[b]? = some q) :
    Calls Tryd.prog 19 #[.slice A Q.length c, .agg #[.int .i64 x0, .int .i64 (b : Int), .int .i64 x2, .int .i64 x3, .int .i64 x4]] w (RepOf Q b q ⟨x0, b, x2, x3, x4⟩ w) := by
  have hbl := get_lt hb
  obtain ⟨U, hU⟩ : ∃ U, U = w.alloc (.cells #[.int .i64 x0, .int .i64 (b : Int), .int .i64 x2, .int .i64 x3, .int .i64 x4] 38) := ⟨_, rfl⟩
  have BI := Lib.hid (show Blk U w.heap.size 38 #[.int .i64 x0, .int .i64 (b : Int), .int .i64 x2, .int .i64 x3, .int .i64 x4] by rw [hU]; exact Blk.new _ _ _)
  have hbu : Below w.heap.size w U := by rw [hU]; exact (Below.refl _ _).alloc (Nat.le_refl _) _
  have HBU := Lib.hid hbu
  have HU := Lib.hid hU
  have HQ := Lib.hid (hQ.next hbu)
  have HQB := Lib.hid hb
  have hql := hqn q (List.mem_iff_getElem?.2 ⟨b, hb⟩)
  have hb1 : ¬ ((b : Int) < 0) := by omega
  have hb2 : ¬ ((Q.length : Int) ≤ b) := by omega
  have hb3 : ¬ (Q.length ≤ b) := by omega
  have hb4 : 0 ≤ (b : Int) ∧ (b : Int) < Q.length := by omega
  have p0 := BI.out.cell 0
  have p1 := BI.out.cell 1
  simp at p0 p1
  have l1 := BI.out.lt
  clear hQ hU hb hbu
  go_enter Tryd.func19, Tryd.ntmps19
  go_upto_region 1 with fail
  rw [← HU.out]
  go_wp2_with fail
  refine (copyQ_any A c Q U HQ.out hn hqn).mono ?_
  rintro e V ⟨v, rfl, hr1, hv1, hbv⟩
  have HBV := Lib.hid (below_next HBU.out (Nat.le_refl _) hbv)
  have BV := BI.out.next hbv
  obtain ⟨g, cap, y, rfl, hlo, hgl, hcy, hyo, _⟩ := hr1.get HQB.out
  obtain ⟨Ay, cy, rfl, hla⟩ := larr_of hyo
  have HLA := Lib.hid hla.lt
  have HR1 := Lib.hid hr1
  have HBI := Lib.hid BV
  have hcy1 := hla.1
  have hcy2 := hla.2.1
  simp only [maxLen] at hcy2
  clear p0 p1 l1 hqn
  have p1 := BV.cell 1
  simp at p1
  have l1 := BV.lt
  clear BV hr1 hv1 hyo hla hbv
  go_wp2_with fail
  go_loopw [27] (fun i wr => ∃ t : Nat, t ≤ q.length ∧ i = .int .i64 t ∧ (∀ (j : Nat) (z : IncR), j < t → q[j]? = some z → z.sq ≠ x0) ∧ Below V.heap.size V wr) (fun i _ => q.length - (intOf i).toNat)
  case atStart => exact ⟨0, by omega, rfl, fun j z hj => by omega, Below.refl _ _⟩
  case round =>
    obtain ⟨t, ht, rfl, hno, hb⟩ := hrel
    have HN := Lib.hid hno
    have HB := Lib.hid hb
    clear hno hb
    by_cases hlt : t < q.length
    · have hlt2 : 0 ≤ (t : Int) ∧ (t : Int) < q.length := by omega
      obtain ⟨i, hi⟩ := nth_of hlt
      obtain ⟨bl, ol, rfl, _, zl0, d0, d1, d2, d3, d4⟩ := (HLA.out.next HB.out).at_ hi
      have HI := Lib.hid hi
      obtain ⟨y0, hy0⟩ : ∃ x, x = i.sq := ⟨_, rfl⟩
      rw [← hy0] at d0
      have HY0 := Lib.hid hy0
      generalize i.bt = y1 at d1
      generalize i.fi = y2 at d2
      generalize i.la = y3 at d3
      generalize i.wo = y4 at d4
      obtain ⟨X, hX⟩ : ∃ X, X = wr.alloc (.cells #[.int .i64 y0, .int .i64 y1, .int .i64 y2, .int .i64 y3, .int .i64 y4] 38) := ⟨_, rfl⟩
      have hbx : Below wr.heap.size wr X := by rw [hX]; exact (Below.refl _ _).alloc (Nat.le_refl _) _
      have BX := (show Blk X wr.heap.size 38 #[.int .i64 y0, .int .i64 y1, .int .i64 y2, .int .i64 y3, .int .i64 y4] by rw [hX]; exact Blk.new _ _ _)
      have hbx2 : Below V.heap.size V X := HB.out.trans (hbx.mono HB.out.size)
      have HXE := Lib.hid hX
      have HBX := Lib.hid hbx2
      have BIX := HBI.out.next hbx2
      have q0 := BX.cell 0
      have p0 := BIX.cell 0
      have p1 := BIX.cell 1
      have p2 := BIX.cell 2
      have p3 := BIX.cell 3
      have p4 := BIX.cell 4
      simp at q0 p0 p1 p2 p3 p4
      have lx := BX.lt
      have li := BIX.lt
      clear hi hy0 hX hbx BX BIX
      go_upto_region 7 with fail
      rw [← HXE.out]
      cases hq : (y0 == x0) with
      | false =>
        have hne : y0 ≠ x0 := by simpa using hq
        have HX := Lib.hid (show ∀ (j : Nat) (z : IncR), j < t + 1 → q[j]? = some z → z.sq ≠ x0 from fun j z hj hz => by
          rcases (by omega : j < t ∨ j = t) with h | h
          · exact HN.out j z h hz
          · subst h
            rw [HI.out] at hz
            injection hz with hz
            subst hz
            rw [← HY0.out]
            exact hne)
        clear hne
        go_wp2_with fail
        exact ⟨⟨t + 1, by omega, by go_num, HX.out, hbx2⟩, by simp [intOf]; omega⟩
      | true =>
        have hqe : y0 = x0 := by simpa using hq
        have HQE := Lib.hid hqe
        obtain ⟨g2, cap2, gy, cy2, eg, hlo2, hgl2, hcg, hloy, hgyl, hgne, hcells, hput⟩ := (HR1.out.below hbx2).store HQB.out hlt
        have HEG := Lib.hid eg
        have HCG := Lib.hid hcg
        have HCELLS := Lib.hid hcells
        have HPUT := Lib.hid hput
        clear eg hcg hcells hput hqe
        go_upto_region 8 with fail
        have eg := HEG.out
        have hcg := HCG.out
        have hcells := HCELLS.out
        injection eg with eg1 eg2 eg3
        injection eg1 with eg1
        injection eg1 with eg1 _
        subst eg1 eg3
        have hcx := (hbx2.cell (p := ⟨g, b, none⟩) hgl).trans hcy
        rw [hcx] at hcg
        injection hcg with hcg
        injection hcg with hcg1 hcg2 hcg3
        injection hcg1 with hcg1
        injection hcg1 with hcg1 hcg4
        subst hcg1 hcg3 hcg4
        obtain ⟨u0, e0⟩ := Option.isSome_iff_exists.1 (hcells 0 (by decide)).1
        obtain ⟨u1, e1⟩ := Option.isSome_iff_exists.1 (hcells 1 (by decide)).1
        obtain ⟨u2, e2⟩ := Option.isSome_iff_exists.1 (hcells 2 (by decide)).1
        obtain ⟨u3, e3⟩ := Option.isSome_iff_exists.1 (hcells 3 (by decide)).1
        obtain ⟨u4, e4⟩ := Option.isSome_iff_exists.1 (hcells 4 (by decide)).1
        have f0 := (hcells 0 (by decide)).2
        have f1 := (hcells 1 (by decide)).2
        have f2 := (hcells 2 (by decide)).2
        have f3 := (hcells 3 (by decide)).2
        have f4 := (hcells 4 (by decide)).2
        simp only [Nat.add_zero] at e0 f0
        have hne : w.heap.size ≠ bl := by have h5 := BI.out.lt; omega
        clear hcells HCELLS HCG q0 lx
        have s0 := p0
        have s1 := p1
        have s2 := p2
        have s3 := p3
        have s4 := p4
        have sx := hcx
        replace p0 : X.drew.cell? ⟨w.heap.size, 0, none⟩ = some (.int .i64 x0) := p0
        replace p1 : X.drew.cell? ⟨w.heap.size, 1, none⟩ = some (.int .i64 (b : Int)) := p1
        replace p2 : X.drew.cell? ⟨w.heap.size, 2, none⟩ = some (.int .i64 x2) := p2
        replace p3 : X.drew.cell? ⟨w.heap.size, 3, none⟩ = some (.int .i64 x3) := p3
        replace p4 : X.drew.cell? ⟨w.heap.size, 4, none⟩ = some (.int .i64 x4) := p4
        replace hcx : X.drew.cell? ⟨g, b, none⟩ = some (.slice (some ⟨bl, 0, none⟩) q.length cy) := hcx
        go_region_held3 (fun w' => w'.cell? ⟨w.heap.size, 0, none⟩ = some (.int .i64 x0) ∧ w'.cell? ⟨w.heap.size, 1, none⟩ = some (.int .i64 (b : Int)) ∧ w'.cell? ⟨w.heap.size, 2, none⟩ = some (.int .i64 x2) ∧ w'.cell? ⟨w.heap.size, 3, none⟩ = some (.int .i64 x3) ∧ w'.cell? ⟨w.heap.size, 4, none⟩ = some (.int .i64 x4) ∧ w'.cell? ⟨g, b, none⟩ = some (.slice (some ⟨bl, 0, none⟩) q.length cy))
          (first | (with_reducible exact ⟨p0, p1, p2, p3, p4, hcx⟩) | (with_reducible exact ⟨(cell_far5d hne).trans s0, (cell_far5d hne).trans s1, (cell_far5d hne).trans s2, (cell_far5d hne).trans s3, (cell_far5d hne).trans s4, (cell_far5d hgne).trans sx⟩))
          (fail)
        all_goals
          go_wp2
          have hR2 : Rows2 (((((X.setCell ⟨bl, t * 5, none⟩ (.int .i64 x0)).setCell ⟨bl, t * 5 + 1, none⟩ (.int .i64 (b : Int))).setCell ⟨bl, t * 5 + 2, none⟩ (.int .i64 x2)).setCell ⟨bl, t * 5 + 3, none⟩ (.int .i64 x3)).setCell ⟨bl, t * 5 + 4, none⟩ (.int .i64 x4)).drew w.heap.size (.slice (some ⟨g, 0, none⟩) Q.length cap) (Q.set b (q.set t ⟨x0, b, x2, x3, x4⟩)) := by
            have h := (HPUT.out ⟨x0, b, x2, x3, x4⟩).lower (lo' := w.heap.size) HBU.out.size
            unfold IncR.cs at h
            rw [set5] at h
            dsimp only at h
            exact h.drew
          have hle : w.heap.size ≤ bl := by have h5 := BI.out.lt; omega
          have hB2 : Below w.heap.size w (((((X.setCell ⟨bl, t * 5, none⟩ (.int .i64 x0)).setCell ⟨bl, t * 5 + 1, none⟩ (.int .i64 (b : Int))).setCell ⟨bl, t * 5 + 2, none⟩ (.int .i64 x2)).setCell ⟨bl, t * 5 + 3, none⟩ (.int .i64 x3)).setCell ⟨bl, t * 5 + 4, none⟩ (.int .i64 x4)).drew := ((((((below_next HBV.out (Nat.le_refl _) HBX.out).setCell (p := ⟨bl, t * 5, none⟩) hle _).setCell (p := ⟨bl, t * 5 + 1, none⟩) hle _).setCell (p := ⟨bl, t * 5 + 2, none⟩) hle _).setCell (p := ⟨bl, t * 5 + 3, none⟩) hle _).setCell (p := ⟨bl, t * 5 + 4, none⟩) hle _).drew
          go_ret2
          exact .inl ⟨t, i, _, HI.out, by rw [← HY0.out, HQE.out], HN.out, rfl, hR2, hB2⟩
    · have hlt2 : ¬ (t : Int) < q.length := by omega
      have HX := Lib.hid (show ∀ y ∈ q, y.sq ≠ x0 from fun y hy => by
        obtain ⟨j, hj⟩ := List.mem_iff_getElem?.1 hy
        exact HN.out j y (by have := get_lt hj; omega) hj)
      have HBE := Lib.hid (below_next HBV.out (Nat.le_refl _) HB.out)
      go_wp2_with fail
      go_ret2
      exact .inr ⟨HX.out, rfl, HBE.out⟩
end Go.Proofs.YtmhbbjbbckdlbaaDoor
