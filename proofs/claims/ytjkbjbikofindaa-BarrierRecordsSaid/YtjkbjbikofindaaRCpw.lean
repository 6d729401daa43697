/-
  Remembered sets copied by the reference: the slots lie in rows of the call's own, each in a block of its own.
-/
import Derived.Test.YtjkbjbikofindaaRDi
namespace Go.Proofs.Ytjkbjbikofindaa
open Go.RowKit
set_option maxRecDepth 100000
set_option linter.unusedVariables false

/-- The cells of a row of sets whose slots are rows of the call's own. -/
def SetW (w : World) (B : Nat) (vs : List Value) (L : List SetR) : Prop :=
  vs.length = L.length * 3 ∧ (∀ (j : Nat) (x : SetR), L[j]? = some x → vs[j * 3]? = some (.int .i64 x.fr) ∧ vs[j * 3 + 1]? = some (.int .i64 x.tg) ∧ ∃ u, vs[j * 3 + 2]? = some u ∧ w.ownsRow B 3 1 u x.sl.length (numC x.sl)) ∧
    (∀ (j k : Nat) (u v : Value) (b : Nat), j < k → k < L.length → vs[j * 3 + 2]? = some u → vs[k * 3 + 2]? = some v → u.ownBlock = some b → v.ownBlock ≠ some b)
def TOwnW (w : World) (B : Nat) (v : Value) (L : List SetR) : Prop := ∃ vs, w.ownsRow B 57 3 v L.length vs ∧ SetW w B vs L
section
variable {w w2 : World} {B n : Nat} {v : Value} {vs xs : List Value} {L : List SetR}
theorem TOwnW.nil (w : World) (B : Nat) : TOwnW w B (.slice none 0 0) [] := ⟨[], World.ownsRow_nil _ _ _ _, rfl, fun j x h => by simp at h, fun j k u v b _ h => by simp at h⟩
theorem int_ne_set {u : Value} {m : Nat} {ys : List Value} {b : Nat} (hu : w.ownsRow B 3 1 u m ys) (hv : w.ownsRow B 57 3 v n xs) (hb : u.ownBlock = some b) : some b ≠ v.ownBlock := by
  intro e
  obtain ⟨cur, h1, _⟩ := row_t hu hb
  obtain ⟨cur2, h2, _⟩ := row_t hv e.symm
  rw [h1] at h2
  injection h2 with h2
  injection h2 with _ h2 _
  exact absurd h2 (by decide)
theorem SetW.grown (h : SetW w B vs L) (hv : w.ownsRow B 57 3 v n xs) (hg : w.grownBy w2 v.ownBlock) : SetW w2 B vs L := by
  obtain ⟨h1, h2, h3⟩ := h
  refine ⟨h1, fun j x hj => ?_, h3⟩
  obtain ⟨a0, a1, u, a2, a3⟩ := h2 j x hj
  exact ⟨a0, a1, u, a2, ownsRow_keep a3 fun k hk _ hl => hg.block k hl (int_ne_set a3 hv hk)⟩
theorem SetW.snoc {x : SetR} {u : Value} (h : SetW w B vs L) (hB : B ≤ w.heap.size) (hb : Below w.heap.size w w2) (h1c : u.oneCell' = true) (hu : w2.ownsRow w.heap.size 3 1 u x.sl.length (numC x.sl)) : SetW w2 B (vs ++ [.int .i64 x.fr, .int .i64 x.tg, u]) (L ++ [x]) := by
  obtain ⟨h1, h2, h3⟩ := h
  refine ⟨by simp; omega, fun j y hj => ?_, fun j k a c b hjk hk ha hc hab => ?_⟩
  · rcases Nat.lt_or_ge j L.length with hl | hl
    · rw [List.getElem?_append_left hl] at hj
      obtain ⟨a0, a1, z, a2, a3⟩ := h2 j y hj
      rw [List.getElem?_append_left (by omega), List.getElem?_append_left (by omega), List.getElem?_append_left (by omega)]
      exact ⟨a0, a1, z, a2, ownsRow_keep a3 fun k _ _ hk => hb.block k hk⟩
    · have := get_lt hj
      simp at this
      obtain rfl : j = L.length := by omega
      rw [List.getElem?_append_right (Nat.le_refl _), Nat.sub_self] at hj
      simp at hj
      subst hj
      rw [List.getElem?_append_right (by omega), List.getElem?_append_right (by omega), List.getElem?_append_right (by omega), h1, Nat.sub_self, show L.length * 3 + 1 - L.length * 3 = 1 by omega, show L.length * 3 + 2 - L.length * 3 = 2 by omega]
      exact ⟨rfl, rfl, u, rfl, ownsRow_lower hu hB⟩
  · simp at hk
    rw [List.getElem?_append_left (by omega)] at ha
    rcases Nat.lt_or_ge k L.length with hkl | hkl
    · rw [List.getElem?_append_left (by omega)] at hc
      exact h3 j k a c b hjk hkl ha hc hab
    · obtain rfl : k = L.length := by omega
      rw [List.getElem?_append_right (by omega), h1, show L.length * 3 + 2 - L.length * 3 = 2 by omega] at hc
      simp at hc
      subst hc
      intro hub
      obtain ⟨y, hy⟩ := nth_of (l := L) (j := j) hjk
      obtain ⟨_, _, z, a2, a3⟩ := h2 j y hy
      rw [a2] at ha
      injection ha with ha
      subst ha
      have := (a3.lt b hab).2
      have := (hu.lt b hub).1
      omega
theorem TOwnW.tarr (h : TOwnW w B v L) : ∃ A c, v = .slice A L.length c ∧ TArr w (Lt w.heap.size) A c L := by
  obtain ⟨vs, h1, h2⟩ := h
  have hT : TOwn w B 0 v L := ⟨Nat.zero_le _, vs, h1, h2.1, fun j x hj => by
    obtain ⟨a0, a1, u, a2, a3⟩ := h2.2.1 j x hj
    obtain ⟨A, c, rfl, hS⟩ := inn_own (lo := 0) a3 rfl
    exact ⟨a0, a1, A, c, a2, hS⟩⟩
  exact hT.tarr
/-- One set of the row turned. -/
theorem TOwnW.turn (h : TOwnW w B v L) {k : Nat} {x : SetR} (hk : L[k]? = some x) : ∃ g cap cur u, v = .slice (some ⟨g, 0, none⟩) L.length cap ∧ B ≤ g ∧ Blk w g 57 cur ∧ L.length ≤ cap ∧ cap ≤ maxLen ∧ cur.size = cap * 3 ∧
    cur[k * 3]? = some (.int .i64 x.fr) ∧ cur[k * 3 + 1]? = some (.int .i64 x.tg) ∧ cur[k * 3 + 2]? = some u ∧ w.ownsRow B 3 1 u x.sl.length (numC x.sl) ∧ u.ownBlock ≠ some g ∧
    ∀ (w2 : World) (cur2 : Array Value) (y : SetR) (A' : Option Addr) (c' : Nat), Blk w2 g 57 cur2 → (∀ i, i ≠ k * 3 → i ≠ k * 3 + 1 → i ≠ k * 3 + 2 → cur2[i]? = cur[i]?) → cur2[k * 3]? = some (.int .i64 y.fr) → cur2[k * 3 + 1]? = some (.int .i64 y.tg) → cur2[k * 3 + 2]? = some (.slice A' y.sl.length c') →
      SArr w2 (Lt w2.heap.size) A' c' y.sl → (∀ b, b < w.heap.size → b ≠ g → u.ownBlock ≠ some b → w2.heap[b]? = w.heap[b]?) → TArr w2 (Lt w2.heap.size) (some ⟨g, 0, none⟩) cap (L.set k y) := by
  obtain ⟨vs, h1, h2, h3, h4⟩ := h
  have hkl := get_lt hk
  obtain ⟨a0, a1, u, a2, a3⟩ := h3 k x hk
  have hne : ∀ b, u.ownBlock = some b → some b ≠ v.ownBlock := fun b hb => int_ne_set a3 h1 hb
  have hrows : ∀ {m : Nat} {z : Value} {ys : List Value} {b : Nat}, w.ownsRow B 3 1 z m ys → z.ownBlock = some b → some b ≠ v.ownBlock := fun hz hb => int_ne_set hz h1 hb
  obtain ⟨hl, ⟨rfl, hz⟩ | ⟨g, cap, cur, rfl, hb, hg, hc, hm, hs, htk⟩⟩ := h1
  · omega
  · have get : ∀ i, i < L.length * 3 → cur[i]? = vs[i]? := fun i hi => by
      rw [← htk, List.getElem?_take, if_pos hi]
      simp
    refine ⟨g, cap, cur, u, rfl, hb, hg, hc, hm, hs, by rw [get _ (by omega)]; exact a0, by rw [get _ (by omega)]; exact a1, by rw [get _ (by omega)]; exact a2, a3, fun e => hne g e rfl, ?_⟩
    intro w2 cur2 y A' c' hB2 hout e0 e1 e2 hS hfar
    refine ⟨by simp; omega, hm, (fun e => by cases e), fun _ => ⟨g, 0, rfl, hB2.lt, fun j z hj => ?_⟩⟩
    have hjl := get_lt hj
    simp at hjl
    rw [hB2.cell, hB2.cell, hB2.cell, Nat.zero_add]
    by_cases e : k = j
    · subst e
      rw [List.getElem?_set_self hkl] at hj
      injection hj with hj
      subst hj
      exact ⟨e0, e1, A', c', e2, hS⟩
    · rw [List.getElem?_set_ne e] at hj
      obtain ⟨b0, b1, z', b2, b3⟩ := h3 j z hj
      rw [hout _ (by omega) (by omega) (by omega), hout _ (by omega) (by omega) (by omega), hout _ (by omega) (by omega) (by omega), get _ (by omega), get _ (by omega), get _ (by omega)]
      obtain ⟨A, c, rfl, hS'⟩ := sarr_row (ownsRow_keep (w' := w2) b3 fun b hb _ hlt => hfar b hlt (fun e => hrows b3 hb (by rw [e]; rfl)) (fun e' => by
        rcases (by omega : j < k ∨ k < j) with hjk | hjk
        · exact h4 j k _ u b hjk hkl b2 a2 hb e'
        · exact h4 k j u _ b hjk hjl a2 b2 e' hb))
      exact ⟨b0, b1, A, c, b2, hS'⟩
end
/-- Sets copied. -/
def GivesW (L : List SetR) (w : World) (e : Ending) (w' : World) : Prop := ∃ v, e = .returned v ∧ TOwnW w' w.heap.size v L ∧ Below w.heap.size w w'

set_option maxHeartbeats 4000000 in
theorem copyW_any (A : Option Addr) (c : Nat) (L : List SetR) (w : World) (hL : TArr w (Lt w.heap.size) A c L) (hn : L.length ≤ 1048576) (hs : ∀ x ∈ L, x.sl.length ≤ 1048576) :
    Calls Try.prog 40 #[.slice A L.length c] w (GivesW L w) := by
  obtain ⟨i0, hi0, hz0, hz1, hz2⟩ := info_parts num_info
  obtain ⟨j0, hj0, hy0, hy1, hy2⟩ := info_parts set_info
  have HL := Lib.hid hL
  have HSL := Lib.hid hs
  have hm := hL.2.1
  have hm' := hL.1
  simp only [maxLen] at hm
  clear hL hs
  go_enter Try.func40, Try.ntmps40
  go_wp2_with fail
  go_loopw [3, 8] (fun v i wr => ∃ t : Nat, t ≤ L.length ∧ i = .int .i64 t ∧ TOwnW wr w.heap.size v (L.take t) ∧ Below w.heap.size w wr) (fun _ i _ => L.length - (intOf i).toNat)
  case atStart => exact ⟨0, by omega, rfl, TOwnW.nil _ _, Below.refl _ _⟩
  case round =>
    obtain ⟨t, ht, rfl, hr, hb⟩ := hrel
    have HB := Lib.hid hb
    have HR := Lib.hid hr
    clear hb hr
    by_cases hlt : t < L.length
    · have hlt2 : 0 ≤ (t : Int) ∧ (t : Int) < L.length := by omega
      obtain ⟨x, hx⟩ := nth_of hlt
      obtain ⟨b, o, A2, c2, rfl, _, hbl, c0, c1, c2', hS⟩ := (HL.out.next HB.out).at_ hx
      have HX := Lib.hid hx
      have HS := Lib.hid hS
      have hsl := HSL.out x (List.mem_iff_getElem?.2 ⟨t, hx⟩)
      clear hx hS
      obtain ⟨W1, hW1⟩ : ∃ W1, W1 = wr.alloc (.cells #[.int .i64 x.fr, .int .i64 x.tg, .slice A2 x.sl.length c2] 57) := ⟨_, rfl⟩
      have B1 : Blk W1 wr.heap.size 57 #[.int .i64 x.fr, .int .i64 x.tg, .slice A2 x.sl.length c2] := by rw [hW1]; exact Blk.new _ _ _
      have HW := Lib.hid (show Below wr.heap.size wr W1.drew by rw [hW1]; exact ((Below.refl _ wr).alloc (Nat.le_refl _) _).drew)
      have HW1 := Lib.hid hW1
      have p0 := B1.cell 0
      have p1 := B1.cell 1
      have p2 := B1.cell 2
      simp at p0 p1 p2
      have HLT := Lib.hid hlt
      have HTL := Lib.hid (show (L.take t).length = t by simp; omega)
      clear hW1 B1
      go_upto_region 5 with fail
      rw [← HW1.out]
      have HS2 := Lib.hid (HS.out.next HW.out)
      have HN1 := Lib.hid (show 0 + x.sl.length ≤ maxLen by simp only [maxLen]; omega)
      have HN2 := Lib.hid (show (0 + x.sl.length) * 8 ≤ 140737488355328 by omega)
      have HM1 := Lib.hid (show t + 1 ≤ maxLen by simp only [maxLen]; omega)
      have HM2 := Lib.hid (show (t + 1) * 40 ≤ 140737488355328 by omega)
      have HWL := Lib.hid (show wr.heap.size < W1.drew.heap.size from cell_lt (w := W1.drew) p0)
      clear c0 c1 c2'
      go_region_law (first
        | (refine step_append_sarr rfl _ _ 27 rfl W1.drew.heap.size 3 i0 _ 8 Try.underlying27 hi0 hz0 hz1 hz2 rfl (.slice none 0 0) 0 [] rfl (World.ownsRow_nil _ _ _ _) A2 x.sl.length c2 x.sl (Lt W1.drew.heap.size) rfl rfl HS2.out HN1.out HN2.out (Nat.le_refl _) ?_
           intro v1 w3 hown hgr1
           have hbn := grown_nil hgr1
           have p3 := (hbn.cell (p := ⟨wr.heap.size, 0, none⟩) HWL.out).trans p0
           have p4 := (hbn.cell (p := ⟨wr.heap.size, 1, none⟩) HWL.out).trans p1
           have hI : w3.ownsRow W1.drew.heap.size 3 1 v1 x.sl.length (numC x.sl) := by simpa using hown
           obtain ⟨A1, c1, rfl, _⟩ := row_slice hI
           have HI := Lib.hid hI
           have HG1 := Lib.hid (HW.out.trans (hbn.mono HW.out.size))
           clear hown hgr1 hbn hI)
        | (obtain ⟨X, hX⟩ : ∃ X, X = w3.alloc (.cells #[.int .i64 x.fr, .int .i64 x.tg, .slice A1 x.sl.length c1] 57) := ⟨_, rfl⟩
           have BX : Blk X w3.heap.size 57 #[.int .i64 x.fr, .int .i64 x.tg, .slice A1 x.sl.length c1] := by rw [hX]; exact Blk.new _ _ _
           have q0 := BX.cell 0
           have q1 := BX.cell 1
           have q2 := BX.cell 2
           have HBX := Lib.hid (show Below w3.heap.size w3 X by rw [hX]; exact (Below.refl _ _).alloc (Nat.le_refl _) _)
           have HGX := Lib.hid (show Below wr.heap.size wr X from HG1.out.trans (HBX.out.mono HG1.out.size))
           obtain ⟨vs, hv0, hv2⟩ := HR.out
           have hv1 := ownsRow_keep (w' := X) hv0 fun g _ _ hl => HGX.out.block g hl
           rw [HTL.out] at hv1
           have HV1 := Lib.hid hv1
           have HV2 := Lib.hid hv2
           have HXI := Lib.hid (SetW.snoc HV2.out HB.out.size HGX.out (x := x) (u := .slice A1 x.sl.length c1) rfl (ownsRow_keep (w' := X) (ownsRow_lower HI.out (Nat.le_of_lt HWL.out)) fun b _ _ hl => HBX.out.block b hl))
           have HNW := Lib.hid (three_news q0 q1 q2)
           have HXS := Lib.hid (Nat.le_trans HB.out.size HGX.out.size)
           clear hv0 hv1 hv2 q0 q1 q2 BX
           rw [← hX]
           clear hX
           refine step_wp rfl (wp_append_own _ _ _ 26 rfl w.heap.size 57 j0 _ 3 40 Try.underlying26 hj0 hy0 hy1 hy2 rfl (by decide) u3 t vs rfl HV1.out ⟨w3.heap.size, 0, none⟩ 1 1 [.int .i64 x.fr, .int .i64 x.tg, .slice A1 x.sl.length c1] rfl rfl HNW.out (by simp [Value.oneCell']) HM1.out HM2.out HXS.out ?_)
           intro v2 w4 hown2 hgr2 _
           have hp : TOwnW w4 w.heap.size v2 (L.take t ++ [x]) := ⟨_, by rw [List.length_append, HTL.out]; exact hown2, HXI.out.grown HV1.out hgr2⟩
           have HP : Hid (TOwnW w4 w.heap.size v2 (L.take (t + 1))) := Lib.hid (by rw [List.take_add_one, HX.out]; exact hp)
           have HB4 := Lib.hid (show Below w.heap.size w w4 from (HB.out.trans (HGX.out.mono HB.out.size)).trans (grown_below hgr2 (row_block HV1.out) HXS.out))
           clear hown2 hgr2 hp))
      all_goals
        go_wp2
        exact ⟨⟨t + 1, by have := HLT.out; omega, by go_num, HP.out, HB4.out⟩, by have := HLT.out; simp [intOf]; omega⟩
    · have hlt2 : ¬ (t : Int) < L.length := by omega
      obtain rfl : t = L.length := by omega
      have hr := HR.out
      rw [List.take_length] at hr
      go_wp2_with fail
      go_ret
      exact ⟨_, rfl, hr, HB.out⟩
end Go.Proofs.Ytjkbjbikofindaa
