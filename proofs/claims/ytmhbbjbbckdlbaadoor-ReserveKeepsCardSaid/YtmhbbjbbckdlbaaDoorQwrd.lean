/-
  Words, Largest and Open, of package belt and of the reference of layer 11: for all belts. (Made by mkqwrd-s11.py.)
-/
import Derived.Test.YtmhbbjbbckdlbaaDoorQrow
import Derived.Test.YtmhbbjbbckdlbaaDoorBmp
import Derived.Handy
namespace Go.Proofs.YtmhbbjbbckdlbaaDoor
open Go.RowKit
set_option maxRecDepth 100000
set_option linter.unusedVariables false

theorem fold_step {α β : Type} {f : β → α → β} {l : List α} {t : Nat} {x : α} (h : l[t]? = some x) (a : β) : (l.take (t + 1)).foldl f a = f ((l.take t).foldl f a) x := by
  rw [List.take_add_one, h, List.foldl_append]
  rfl
theorem fold_end {α β : Type} {f : β → α → β} {l : List α} {t : Nat} (h : l.length ≤ t) (a : β) : (l.take t).foldl f a = l.foldl f a := by rw [List.take_of_length_le h]

/-- The sum of the words, as it is computed. -/
def wrdL (a : Int) (q : List IncR) : Int := q.foldl (fun x i => wrap64 (x + i.wo)) a
def wrdQ (Q : List (List IncR)) : Int := Q.foldl wrdL 0
/-- The most frames that one needs. -/
def lgL (s : Int) (a : Int) (q : List IncR) : Int := q.foldl (fun x i => if x < Hd.ceilZ i.wo s then Hd.ceilZ i.wo s else x) a
def lgQ (s : Int) (Q : List (List IncR)) : Int := Q.foldl (lgL s) 0
set_option maxHeartbeats 1000000 in
theorem refWords_any (A : Option Addr) (c : Nat) (Q : List (List IncR)) (w : World) (hQ : QArr w (Lt w.heap.size) A c Q) :
    Calls Tryd.prog 24 #[.slice A Q.length c] w fun e w' => e = .returned (.int .i64 (wrdQ Q)) ∧ Below w.heap.size w w' := by
  have HQ := Lib.hid hQ
  have hm := hQ.2.1
  have hm' := hQ.1
  simp only [maxLen] at hm
  clear hQ
  go_enter Tryd.func24, Tryd.ntmps24
  go_wp2_with fail
  go_loopw [3, 10] (fun s' i wr => ∃ t : Nat, t ≤ Q.length ∧ s' = .int .i64 ((Q.take t).foldl wrdL 0) ∧ i = .int .i64 t ∧ Below w.heap.size w wr) (fun _ i _ => Q.length - (intOf i).toNat)
  case atStart => exact ⟨0, by omega, rfl, rfl, Below.refl _ _⟩
  case round =>
    obtain ⟨t, ht, rfl, rfl, hb⟩ := hrel
    have HB := Lib.hid hb
    clear hb
    obtain ⟨s0, hs0⟩ : ∃ x, x = (Q.take t).foldl wrdL 0 := ⟨_, rfl⟩
    rw [← hs0]
    by_cases hlt : t < Q.length
    · have hlt2 : 0 ≤ (t : Int) ∧ (t : Int) < Q.length := by omega
      obtain ⟨q, hq⟩ : ∃ q, Q[t]? = some q := ⟨Q[t], List.getElem?_eq_getElem hlt⟩
      obtain ⟨b, o, A', c', rfl, hP, _, c0', hq1⟩ := HQ.out.at_ hq
      have c0 := (HB.out.cell (p := ⟨b, o + t, none⟩) hP).trans c0'
      have hbz : b < wr.heap.size := cell_lt c0
      have HL := Lib.hid hq1
      have hn := hq1.2.1
      have hn' := hq1.1
      simp only [maxLen] at hn
      clear c0'
      have HS := Lib.hid (show (Q.take (t + 1)).foldl wrdL 0 = wrdL s0 q by rw [fold_step hq, ← hs0])
      clear hq1 hs0 hq hP
      go_wp2_with fail
      go_loopw [3, 16] (fun s' i wr => ∃ u : Nat, u ≤ q.length ∧ s' = .int .i64 (wrdL s0 (q.take u)) ∧ i = .int .i64 u ∧ Below w.heap.size w wr) (fun _ i _ => q.length - (intOf i).toNat)
      case atStart => exact ⟨0, by omega, rfl, rfl, HB.out⟩
      case round =>
        obtain ⟨u, hu, rfl, rfl, hb⟩ := hrel
        have HB2 := Lib.hid hb
        clear hb
        obtain ⟨s1, hs1⟩ : ∃ x, x = wrdL s0 (q.take u) := ⟨_, rfl⟩
        rw [← hs1]
        by_cases hul : u < q.length
        · have hul2 : 0 ≤ (u : Int) ∧ (u : Int) < q.length := by omega
          obtain ⟨i, hi⟩ : ∃ i, q[u]? = some i := ⟨q[u], List.getElem?_eq_getElem hul⟩
          obtain ⟨b', o', rfl, hP, hbz', d0, d1, d2, d3, d4⟩ := (HL.out.below HB2.out).at_ hi
          have HS1 := Lib.hid (show wrdL s0 (q.take (u + 1)) = wrap64 (s1 + i.wo) by rw [hs1]; exact fold_step hi s0)
          have HBN : Hid (Below w.heap.size w (wr.alloc (.cells #[.int .i64 i.sq, .int .i64 i.bt, .int .i64 i.fi, .int .i64 i.la, .int .i64 i.wo] 38))) := HB2.out.alloc HB2.out.size _
          clear hs1 hi hP
          go_wp2
          exact ⟨⟨u + 1, by omega, by rw [HS1.out], by go_num, HBN.out⟩, by simp [intOf]; omega⟩
        · have hul2 : ¬ (u : Int) < q.length := by omega
          have HE := Lib.hid (show s1 = wrdL s0 q by rw [hs1, List.take_of_length_le (by omega)])
          clear hs1
          go_wp2
          exact ⟨⟨t + 1, by omega, by rw [HS.out, HE.out], by go_num, HB2.out⟩, by simp [intOf]; omega⟩
    · have hlt2 : ¬ (t : Int) < Q.length := by omega
      have HE := Lib.hid (show s0 = wrdQ Q by rw [hs0]; exact fold_end (by omega) _)
      clear hs0
      go_wp2
      go_ret
      exact ⟨by rw [← HE.out]; rfl, HB.out⟩
set_option maxHeartbeats 1000000 in
theorem largest_any (s : Int) (V1 V2 : Value) (A : Option Addr) (c : Nat) (Q : List (List IncR)) (w : World) (hQ : QArr w (Lt w.heap.size) A c Q) :
    Calls Tryd.prog 31 #[.agg #[.int .i64 s, V1, V2], .slice A Q.length c] w fun e w' => e = .returned (.int .i64 (lgQ s Q)) ∧ Below w.heap.size w w' := by
  have HQ := Lib.hid hQ
  have hm := hQ.2.1
  have hm' := hQ.1
  simp only [maxLen] at hm
  clear hQ
  obtain ⟨U, hU⟩ : ∃ U, U = w.alloc (.cells #[.int .i64 s, V1, V2] 31) := ⟨_, rfl⟩
  have BU : Hid (Blk U w.heap.size 31 #[.int .i64 s, V1, V2]) := by rw [hU]; exact Blk.new _ _ _
  have HBU : Hid (Below w.heap.size w U) := by rw [hU]; exact (Below.refl _ _).alloc (Nat.le_refl _) _
  have HU := Lib.hid hU
  have zw : w.heap.size < U.heap.size := BU.out.lt
  clear hU
  go_enter Tryd.func31, Tryd.ntmps31
  go_wp2_with fail
  rw [← HU.out]
  go_loopw [5, 12] (fun s' i wr => ∃ t : Nat, t ≤ Q.length ∧ s' = .int .i64 ((Q.take t).foldl (lgL s) 0) ∧ i = .int .i64 t ∧ Below U.heap.size U wr) (fun _ i _ => Q.length - (intOf i).toNat)
  case atStart => exact ⟨0, by omega, rfl, rfl, Below.refl _ _⟩
  case round =>
    obtain ⟨t, ht, rfl, rfl, hb⟩ := hrel
    have HB := Lib.hid hb
    clear hb
    obtain ⟨s0, hs0⟩ : ∃ x, x = (Q.take t).foldl (lgL s) 0 := ⟨_, rfl⟩
    rw [← hs0]
    by_cases hlt : t < Q.length
    · have hlt2 : 0 ≤ (t : Int) ∧ (t : Int) < Q.length := by omega
      obtain ⟨q, hq⟩ : ∃ q, Q[t]? = some q := ⟨Q[t], List.getElem?_eq_getElem hlt⟩
      obtain ⟨b, o, A', c', rfl, hP, _, c0', hq1⟩ := HQ.out.at_ hq
      have c0 := ((HB.out.cell (p := ⟨b, o + t, none⟩) (Nat.lt_trans hP zw)).trans (HBU.out.cell (p := ⟨b, o + t, none⟩) hP)).trans c0'
      have hbz : b < wr.heap.size := cell_lt c0
      have HL := Lib.hid hq1
      have hn := hq1.2.1
      have hn' := hq1.1
      simp only [maxLen] at hn
      clear c0'
      have HS := Lib.hid (show (Q.take (t + 1)).foldl (lgL s) 0 = lgL s s0 q by rw [fold_step hq, ← hs0])
      clear hq1 hs0 hq hP
      go_wp2_with fail
      go_loopw [5, 18] (fun s' i wr => ∃ u : Nat, u ≤ q.length ∧ s' = .int .i64 (lgL s s0 (q.take u)) ∧ i = .int .i64 u ∧ Below U.heap.size U wr) (fun _ i _ => q.length - (intOf i).toNat)
      case atStart => exact ⟨0, by omega, rfl, rfl, HB.out⟩
      case round =>
        obtain ⟨u, hu, rfl, rfl, hb⟩ := hrel
        have HB2 := Lib.hid hb
        clear hb
        obtain ⟨s1, hs1⟩ : ∃ x, x = lgL s s0 (q.take u) := ⟨_, rfl⟩
        rw [← hs1]
        by_cases hul : u < q.length
        · have hul2 : 0 ≤ (u : Int) ∧ (u : Int) < q.length := by omega
          obtain ⟨i, hi⟩ : ∃ i, q[u]? = some i := ⟨q[u], List.getElem?_eq_getElem hul⟩
          obtain ⟨b', o', rfl, hP, hbz', d0, d1, d2, d3, d4⟩ := ((HL.out.below HBU.out).keep (fun b o hp => HB2.out.cell (p := ⟨b, o, none⟩) (Nat.lt_trans hp zw))).at_ hi
          have HS1 := Lib.hid (show lgL s s0 (q.take (u + 1)) = if s1 < Hd.ceilZ i.wo s then Hd.ceilZ i.wo s else s1 by rw [hs1]; exact fold_step hi s0)
          have BR := BU.out.next HB2.out
          have p0 := BR.cell 0
          have p1 := BR.cell 1
          have p2 := BR.cell 2
          simp at p0 p1 p2
          have zs : w.heap.size < wr.heap.size := BR.lt
          obtain ⟨x0, hx0⟩ : ∃ x, x = i.sq := ⟨_, rfl⟩
          obtain ⟨x1, hx1⟩ : ∃ x, x = i.bt := ⟨_, rfl⟩
          obtain ⟨x2, hx2⟩ : ∃ x, x = i.fi := ⟨_, rfl⟩
          obtain ⟨x3, hx3⟩ : ∃ x, x = i.la := ⟨_, rfl⟩
          obtain ⟨x4, hx4⟩ : ∃ x, x = i.wo := ⟨_, rfl⟩
          rw [← hx0] at d0
          rw [← hx1] at d1
          rw [← hx2] at d2
          rw [← hx3] at d3
          rw [← hx4] at d4
          rw [← hx4] at HS1
          have HBN : Hid (Below U.heap.size U (wr.alloc (.cells #[.int .i64 x0, .int .i64 x1, .int .i64 x2, .int .i64 x3, .int .i64 x4] 38))) := HB2.out.alloc HB2.out.size _
          clear hs1 hi hP hx0 hx1 hx2 hx3 hx4 BR
          go_wp2_with (go_at_call 54; refine (frames9_any s x4 V1 V2 x0 x1 x2 x3 _).mono ?_; rintro e w1 ⟨rfl, hb1⟩)
          have HBM : Hid (Below U.heap.size U w1) := below_next HBN.out (Nat.le_refl _) hb1
          clear hb1
          exact ⟨⟨u + 1, by omega, by rw [HS1.out], by go_num, HBM.out⟩, by simp [intOf]; omega⟩
        · have hul2 : ¬ (u : Int) < q.length := by omega
          have HE := Lib.hid (show s1 = lgL s s0 q by rw [hs1, List.take_of_length_le (by omega)])
          clear hs1
          go_wp2
          exact ⟨⟨t + 1, by omega, by rw [HS.out, HE.out], by go_num, HB2.out⟩, by simp [intOf]; omega⟩
    · have hlt2 : ¬ (t : Int) < Q.length := by omega
      have HE := Lib.hid (show s0 = lgQ s Q by rw [hs0]; exact fold_end (by omega) _)
      clear hs0
      go_wp2
      go_ret
      exact ⟨by rw [← HE.out]; rfl, below_next HBU.out (Nat.le_refl _) HB.out⟩
set_option maxHeartbeats 1000000 in
theorem refLargest_any (s : Int) (V1 V2 : Value) (A : Option Addr) (c : Nat) (Q : List (List IncR)) (w : World) (hQ : QArr w (Lt w.heap.size) A c Q) :
    Calls Tryd.prog 32 #[.agg #[.int .i64 s, V1, V2], .slice A Q.length c] w fun e w' => e = .returned (.int .i64 (lgQ s Q)) ∧ Below w.heap.size w w' := by
  have HQ := Lib.hid hQ
  have hm := hQ.2.1
  have hm' := hQ.1
  simp only [maxLen] at hm
  clear hQ
  obtain ⟨U, hU⟩ : ∃ U, U = w.alloc (.cells #[.int .i64 s, V1, V2] 31) := ⟨_, rfl⟩
  have BU : Hid (Blk U w.heap.size 31 #[.int .i64 s, V1, V2]) := by rw [hU]; exact Blk.new _ _ _
  have HBU : Hid (Below w.heap.size w U) := by rw [hU]; exact (Below.refl _ _).alloc (Nat.le_refl _) _
  have HU := Lib.hid hU
  have zw : w.heap.size < U.heap.size := BU.out.lt
  clear hU
  go_enter Tryd.func32, Tryd.ntmps32
  go_wp2_with fail
  rw [← HU.out]
  go_loopw [5, 12] (fun s' i wr => ∃ t : Nat, t ≤ Q.length ∧ s' = .int .i64 ((Q.take t).foldl (lgL s) 0) ∧ i = .int .i64 t ∧ Below U.heap.size U wr) (fun _ i _ => Q.length - (intOf i).toNat)
  case atStart => exact ⟨0, by omega, rfl, rfl, Below.refl _ _⟩
  case round =>
    obtain ⟨t, ht, rfl, rfl, hb⟩ := hrel
    have HB := Lib.hid hb
    clear hb
    obtain ⟨s0, hs0⟩ : ∃ x, x = (Q.take t).foldl (lgL s) 0 := ⟨_, rfl⟩
    rw [← hs0]
    by_cases hlt : t < Q.length
    · have hlt2 : 0 ≤ (t : Int) ∧ (t : Int) < Q.length := by omega
      obtain ⟨q, hq⟩ : ∃ q, Q[t]? = some q := ⟨Q[t], List.getElem?_eq_getElem hlt⟩
      obtain ⟨b, o, A', c', rfl, hP, _, c0', hq1⟩ := HQ.out.at_ hq
      have c0 := ((HB.out.cell (p := ⟨b, o + t, none⟩) (Nat.lt_trans hP zw)).trans (HBU.out.cell (p := ⟨b, o + t, none⟩) hP)).trans c0'
      have hbz : b < wr.heap.size := cell_lt c0
      have HL := Lib.hid hq1
      have hn := hq1.2.1
      have hn' := hq1.1
      simp only [maxLen] at hn
      clear c0'
      have HS := Lib.hid (show (Q.take (t + 1)).foldl (lgL s) 0 = lgL s s0 q by rw [fold_step hq, ← hs0])
      clear hq1 hs0 hq hP
      go_wp2_with fail
      go_loopw [5, 18] (fun s' i wr => ∃ u : Nat, u ≤ q.length ∧ s' = .int .i64 (lgL s s0 (q.take u)) ∧ i = .int .i64 u ∧ Below U.heap.size U wr) (fun _ i _ => q.length - (intOf i).toNat)
      case atStart => exact ⟨0, by omega, rfl, rfl, HB.out⟩
      case round =>
        obtain ⟨u, hu, rfl, rfl, hb⟩ := hrel
        have HB2 := Lib.hid hb
        clear hb
        obtain ⟨s1, hs1⟩ : ∃ x, x = lgL s s0 (q.take u) := ⟨_, rfl⟩
        rw [← hs1]
        by_cases hul : u < q.length
        · have hul2 : 0 ≤ (u : Int) ∧ (u : Int) < q.length := by omega
          obtain ⟨i, hi⟩ : ∃ i, q[u]? = some i := ⟨q[u], List.getElem?_eq_getElem hul⟩
          obtain ⟨b', o', rfl, hP, hbz', d0, d1, d2, d3, d4⟩ := ((HL.out.below HBU.out).keep (fun b o hp => HB2.out.cell (p := ⟨b, o, none⟩) (Nat.lt_trans hp zw))).at_ hi
          have HS1 := Lib.hid (show lgL s s0 (q.take (u + 1)) = if s1 < Hd.ceilZ i.wo s then Hd.ceilZ i.wo s else s1 by rw [hs1]; exact fold_step hi s0)
          have BR := BU.out.next HB2.out
          have p0 := BR.cell 0
          have p1 := BR.cell 1
          have p2 := BR.cell 2
          simp at p0 p1 p2
          have zs : w.heap.size < wr.heap.size := BR.lt
          obtain ⟨x0, hx0⟩ : ∃ x, x = i.sq := ⟨_, rfl⟩
          obtain ⟨x1, hx1⟩ : ∃ x, x = i.bt := ⟨_, rfl⟩
          obtain ⟨x2, hx2⟩ : ∃ x, x = i.fi := ⟨_, rfl⟩
          obtain ⟨x3, hx3⟩ : ∃ x, x = i.la := ⟨_, rfl⟩
          obtain ⟨x4, hx4⟩ : ∃ x, x = i.wo := ⟨_, rfl⟩
          rw [← hx0] at d0
          rw [← hx1] at d1
          rw [← hx2] at d2
          rw [← hx3] at d3
          rw [← hx4] at d4
          rw [← hx4] at HS1
          have HBN : Hid (Below U.heap.size U (wr.alloc (.cells #[.int .i64 x0, .int .i64 x1, .int .i64 x2, .int .i64 x3, .int .i64 x4] 38))) := HB2.out.alloc HB2.out.size _
          clear hs1 hi hP hx0 hx1 hx2 hx3 hx4 BR
          go_wp2_with (go_at_call 36; refine (refFrames9_any s x4 V1 V2 x0 x1 x2 x3 _).mono ?_; rintro e w1 ⟨rfl, hb1⟩)
          have HBM : Hid (Below U.heap.size U w1) := below_next HBN.out (Nat.le_refl _) hb1
          clear hb1
          exact ⟨⟨u + 1, by omega, by rw [HS1.out], by go_num, HBM.out⟩, by simp [intOf]; omega⟩
        · have hul2 : ¬ (u : Int) < q.length := by omega
          have HE := Lib.hid (show s1 = lgL s s0 q by rw [hs1, List.take_of_length_le (by omega)])
          clear hs1
          go_wp2
          exact ⟨⟨t + 1, by omega, by rw [HS.out, HE.out], by go_num, HB2.out⟩, by simp [intOf]; omega⟩
    · have hlt2 : ¬ (t : Int) < Q.length := by omega
      have HE := Lib.hid (show s0 = lgQ s Q by rw [hs0]; exact fold_end (by omega) _)
      clear hs0
      go_wp2
      go_ret
      exact ⟨by rw [← HE.out]; rfl, below_next HBU.out (Nat.le_refl _) HB.out⟩

/-- Whether an increment is open. -/
def opnB (s wo l : Int) : Bool := decide (l = 0) || decide (wo < IntKind.i64.wrap (l * sizeV s))
end Go.Proofs.YtmhbbjbbckdlbaaDoor
