/-
  The reference's Drop and Into of remembered sets.
-/
import Derived.Test.YtkjmokaahpkahaaRMore
namespace Go.Proofs.Ytkjmokaahpkahaa
open Go.RowKit
set_option maxRecDepth 100000
set_option linter.unusedVariables false

/-- A set of a row of the call's own. -/
theorem TOwn.at_ {w : World} {base lo : Nat} {v : Value} {L : List SetR} (h : TOwn w base lo v L) {j : Nat} {x : SetR} (hj : L[j]? = some x) :
    ∃ g cap A c, v = .slice (some ⟨g, 0, none⟩) L.length cap ∧ g < w.heap.size ∧ cap ≤ maxLen ∧ w.cell? ⟨g, j * 3, none⟩ = some (.int .i64 x.fr) ∧ w.cell? ⟨g, j * 3 + 1, none⟩ = some (.int .i64 x.tg) ∧ w.cell? ⟨g, j * 3 + 2, none⟩ = some (.slice A x.sl.length c) ∧ SArr w (Inn w lo) A c x.sl := by
  obtain ⟨_, vs, ⟨hl, h1⟩, h2⟩ := h
  have hjl := get_lt hj
  rcases h1 with ⟨rfl, hz⟩ | ⟨g, cap, cur, rfl, hb, hg, hc, hm, hs, htk⟩
  · omega
  · obtain ⟨a0, a1, A, c, a2, hS⟩ := h2.2 j x hj
    rw [← htk, List.getElem?_take, if_pos (by omega)] at a0 a1 a2
    refine ⟨g, cap, A, c, rfl, blk_lt hg, hm, ?_, ?_, ?_, hS⟩
    · rw [cell_row hg]; simpa using a0
    · rw [cell_row hg]; simpa using a1
    · rw [cell_row hg]; simpa using a2
theorem TOwn.len {w : World} {base lo : Nat} {v : Value} {L : List SetR} (h : TOwn w base lo v L) : ∃ A cap, v = .slice A L.length cap ∧ cap ≤ maxLen ∧ L.length ≤ cap := by
  obtain ⟨_, vs, ⟨hl, h1⟩, h2⟩ := h
  rcases h1 with ⟨rfl, hz⟩ | ⟨g, cap, cur, rfl, hb, hg, hc, hm, hs, htk⟩
  · exact ⟨none, 0, by rw [hz], by simp, by omega⟩
  · exact ⟨_, cap, rfl, hm, hc⟩
theorem drpS_next {F : List Int} {L : List SetR} {t : Nat} {x : SetR} (h : L[t]? = some x) : drpS F (L.take (t + 1)) = if x.fr ∈ F ∨ x.tg ∈ F then drpS F (L.take t) else drpS F (L.take t) ++ [x] := by
  rw [List.take_add_one, h]
  unfold drpS
  rw [List.filter_append]
  by_cases h1 : x.fr ∈ F
  · rw [if_pos (.inl h1)]; simp [h1]
  · by_cases h2 : x.tg ∈ F
    · rw [if_pos (.inr h2)]; simp [h2]
    · rw [if_neg (by simp [h1, h2])]; simp [h1, h2]

set_option maxHeartbeats 4000000 in
theorem drop18_any (A : Option Addr) (c : Nat) (L : List SetR) (B : Option Addr) (d : Nat) (F : List Int) (w : World) (hL : TArr w (Lt w.heap.size) A c L) (hF : SArr w (Lt w.heap.size) B d F) (hn : L.length ≤ 1048000) (hs : ∀ x ∈ L, x.sl.length ≤ 1048000) :
    Calls Try.prog 27 #[.slice A L.length c, .slice B F.length d] w (GivesT (drpS F L) w.heap.size w) := by
  obtain ⟨j0, hj0, hy0, hy1, hy2⟩ := info_parts set_info
  have HF := Lib.hid hF
  have HM0 := Lib.hid hn
  go_enter Try.func27, Try.ntmps27
  go_wp2_with fail
  refine (copyT_any A c L w.heap.size w (Nat.le_refl _) hL (by omega) (fun x hx => by have := hs x hx; omega)).mono ?_
  rintro e V ⟨vc, rfl, hto, hb⟩
  obtain ⟨AC, cc, rfl, hcm, hcl⟩ := hto.len
  simp only [maxLen] at hcm
  have HTO := Lib.hid hto
  have HBV := Lib.hid hb
  clear hL hF hs hto hb
  go_wp2_with fail
  go_loopw [5, 11] (fun v i wr => ∃ t : Nat, t ≤ L.length ∧ i = .int .i64 t ∧ TOwn wr V.heap.size w.heap.size v (drpS F (L.take t)) ∧ Below V.heap.size V wr) (fun _ i _ => L.length - (intOf i).toNat)
  case atStart => exact ⟨0, by omega, rfl, TOwn.nil _ HBV.out.size, Below.refl _ _⟩
  case round =>
    obtain ⟨t, ht, rfl, hr, hb⟩ := hrel
    have HR := Lib.hid hr
    have HB := Lib.hid hb
    clear hr hb
    by_cases hlt : t < L.length
    · have hlt2 : 0 ≤ (t : Int) ∧ (t : Int) < L.length := by omega
      obtain ⟨x, hx⟩ := nth_of hlt
      obtain ⟨g, cap, A2, c2, e, hgl, _, c0, c1, c2', hS⟩ := (HTO.out.below HB.out).at_ hx
      injection e with e1 e2 e3
      subst e1 e3
      have HX := Lib.hid hx
      have HS := Lib.hid hS
      have HNX := Lib.hid (drpS_next (F := F) hx)
      obtain ⟨W1, hW1⟩ : ∃ W1, W1 = wr.alloc (.cells #[.int .i64 x.fr, .int .i64 x.tg, .slice A2 x.sl.length c2] 48) := ⟨_, rfl⟩
      have hb1 : Below wr.heap.size wr W1 := by rw [hW1]; exact (Below.refl _ wr).alloc (Nat.le_refl _) _
      have HB1 := Lib.hid hb1
      have HBX := Lib.hid (show Blk W1 wr.heap.size 48 #[.int .i64 x.fr, .int .i64 x.tg, .slice A2 x.sl.length c2] by rw [hW1]; exact Blk.new _ _ _)
      have HW1 := Lib.hid hW1
      have HF1 := Lib.hid (HF.out.next (HBV.out.trans ((HB.out.trans (hb1.mono HB.out.size)).mono HBV.out.size)))
      obtain ⟨q1, hq1⟩ : ∃ q, decide (x.fr ∈ F) = q := ⟨_, rfl⟩
      have HQ1 := Lib.hid hq1
      have p0 := HBX.out.cell 0
      have p1 := HBX.out.cell 1
      have p2 := HBX.out.cell 2
      simp at p0 p1 p2
      clear hx hS hW1 hb1 hq1
      go_upto_region 5 with fail
      rw [← HW1.out]
      go_wp2_with fail
      refine (in18_any B d F x.fr W1 HF1.out).mono ?_
      rintro e W2 ⟨rfl, hb2⟩
      rw [HQ1.out]
      have HB2 := Lib.hid (HB1.out.trans (hb2.mono HB1.out.size))
      have HBX2 := Lib.hid (HBX.out.next hb2)
      have HF2 := Lib.hid (HF1.out.next hb2)
      clear p0 p1 p2 c0 c1 c2' hb2
      cases q1 with
      | true =>
        go_wp2_with fail
        exact ⟨⟨t + 1, by omega, by go_num, by rw [HNX.out, if_pos (.inl (of_decide_eq_true HQ1.out))]; exact HR.out.below HB2.out, HB.out.trans (HB2.out.mono HB.out.size)⟩, by simp [intOf]; omega⟩
      | false =>
        have p0 := HBX2.out.cell 0
        have p1 := HBX2.out.cell 1
        have p2 := HBX2.out.cell 2
        simp at p0 p1 p2
        obtain ⟨q2, hq2⟩ : ∃ q, decide (x.tg ∈ F) = q := ⟨_, rfl⟩
        have HQ2 := Lib.hid hq2
        clear hq2
        go_wp2_with fail
        refine (in18_any B d F x.tg W2 HF2.out).mono ?_
        rintro e W3 ⟨rfl, hb3⟩
        rw [HQ2.out]
        have HB3 := Lib.hid (HB2.out.trans (hb3.mono HB2.out.size))
        have HBX3 := Lib.hid (HBX2.out.next hb3)
        clear p0 p1 p2 hb3
        cases q2 with
        | true =>
          go_wp2_with fail
          exact ⟨⟨t + 1, by omega, by go_num, by rw [HNX.out, if_pos (.inr (of_decide_eq_true HQ2.out))]; exact HR.out.below HB3.out, HB.out.trans (HB3.out.mono HB.out.size)⟩, by simp [intOf]; omega⟩
        | false =>
          obtain ⟨X, hX⟩ : ∃ X, X = W3.alloc (.cells #[.int .i64 x.fr, .int .i64 x.tg, .slice A2 x.sl.length c2] 48) := ⟨_, rfl⟩
          have BX : Blk X W3.heap.size 48 #[.int .i64 x.fr, .int .i64 x.tg, .slice A2 x.sl.length c2] := by rw [hX]; exact Blk.new _ _ _
          have q0 := BX.cell 0
          have q1 := BX.cell 1
          have q2 := BX.cell 2
          have HGX := Lib.hid (show Below wr.heap.size wr X from HB3.out.trans (by rw [hX]; exact (Below.refl _ _).alloc HB3.out.size _))
          obtain ⟨hlo, vs, hv1, hv2⟩ := HR.out.below HGX.out
          have hlen : (drpS F (L.take t)).length ≤ t := Nat.le_trans (List.length_filter_le _ _) (by simp; omega)
          have HV1 := Lib.hid hv1
          have HV2 := Lib.hid hv2
          have HXI := Lib.hid (SetV.single (HS.out.inn (w' := X) fun b _ hl => HGX.out.block b hl))
          have HNW := Lib.hid (three_news q0 q1 q2)
          have HX1 := Lib.hid hX
          have HXS := Lib.hid (Nat.le_trans HB.out.size HGX.out.size)
          have HM1 := Lib.hid (show (drpS F (L.take t)).length + 1 ≤ maxLen by have := HM0.out; simp only [maxLen]; omega)
          have HM2 := Lib.hid (show ((drpS F (L.take t)).length + 1) * 40 ≤ 140737488355328 by have := HM0.out; omega)
          have p0 := HBX3.out.cell 0
          have p1 := HBX3.out.cell 1
          have p2 := HBX3.out.cell 2
          simp at p0 p1 p2
          have HLOW := Lib.hid hlo
          clear hv1 hv2 q0 q1 q2 BX hX hlen hlo
          go_wp2_with (at_builtin; rw [← HX1.out]; refine wpList_append_own _ rfl _ _ 22 rfl V.heap.size 48 j0 _ 3 40 Try.underlying22 hj0 hy0 hy1 hy2 rfl (by decide) u5 (drpS F (L.take t)).length vs rfl HV1.out ⟨W3.heap.size, 0, none⟩ 1 1 [.int .i64 x.fr, .int .i64 x.tg, .slice A2 x.sl.length c2] rfl rfl HNW.out HXI.out.one HM1.out HM2.out HXS.out ?_)
          intro v2 w4 hown2 hgr2 _
          have hp := TOwn.push_ HLOW.out HV2.out HXI.out HV1.out hgr2 hown2 rfl
          have HP : Hid (TOwn w4 V.heap.size w.heap.size v2 (drpS F (L.take (t + 1)))) := Lib.hid (by rw [HNX.out, if_neg (fun h => h.elim (of_decide_eq_false HQ1.out) (of_decide_eq_false HQ2.out))]; exact hp)
          have HB4 := Lib.hid (show Below V.heap.size V w4 from (HB.out.trans (HGX.out.mono HB.out.size)).trans (grown_below hgr2 (row_block HV1.out) HXS.out))
          clear hown2 hgr2 hp
          go_wp2
          exact ⟨⟨t + 1, by omega, by go_num, HP.out, HB4.out⟩, by simp [intOf]; omega⟩
    · have hlt2 : ¬ (t : Int) < L.length := by omega
      obtain rfl : t = L.length := by omega
      have hr := HR.out
      rw [List.take_length] at hr
      go_wp2_with fail
      go_ret
      exact ⟨_, rfl, hr.lower HBV.out.size (Nat.le_refl _), HBV.out.trans (HB.out.mono HBV.out.size)⟩
end Go.Proofs.Ytkjmokaahpkahaa
