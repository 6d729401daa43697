/-
  Remembered sets copied: the reference's Copy.
-/
import Derived.Test.YtjkbjbikofindaaRFn
namespace Go.Proofs.Ytjkbjbikofindaa
open Go.RowKit
set_option maxRecDepth 100000
set_option linter.unusedVariables false

/-- Sets in a row of the call's own. -/
def GivesT (L : List SetR) (lo : Nat) (w : World) (e : Ending) (w' : World) : Prop := ∃ v, e = .returned v ∧ TOwn w' w.heap.size lo v L ∧ Below w.heap.size w w'
theorem grown_below {B : Nat} {w w1 : World} {row : Option Nat} (hg : w.grownBy w1 row) (hr : ∀ k, row = some k → B ≤ k) (hB : B ≤ w.heap.size) : Below B w w1 :=
  ⟨hg.os, hg.tape, hg.output, hg.size, fun k hk => hg.block k (by omega) (fun e => by have := hr k e.symm; omega)⟩

set_option maxHeartbeats 4000000 in
theorem copyT_any (A : Option Addr) (c : Nat) (L : List SetR) (lo : Nat) (w : World) (hlo : lo ≤ w.heap.size) (hL : TArr w (Lt w.heap.size) A c L) (hn : L.length ≤ 1048576) (hs : ∀ x ∈ L, x.sl.length ≤ 1048576) :
    Calls Try.prog 40 #[.slice A L.length c] w (GivesT L lo w) := by
  obtain ⟨i0, hi0, hz0, hz1, hz2⟩ := info_parts num_info
  obtain ⟨j0, hj0, hy0, hy1, hy2⟩ := info_parts set_info
  have HL := Lib.hid hL
  have HSL := Lib.hid hs
  have hm := hL.2.1
  have hm' := hL.1
  simp only [maxLen] at hm
  clear hL hs
  go_enter Try.func40, Try.ntmps40
  go_wp2_with fail
  go_loopw [3, 8] (fun v i wr => ∃ t : Nat, t ≤ L.length ∧ i = .int .i64 t ∧ TOwn wr w.heap.size lo v (L.take t) ∧ Below w.heap.size w wr) (fun _ i _ => L.length - (intOf i).toNat)
  case atStart => exact ⟨0, by omega, rfl, TOwn.nil _ hlo, Below.refl _ _⟩
  case round =>
    obtain ⟨t, ht, rfl, hr, hb⟩ := hrel
    have HB := Lib.hid hb
    have HR := Lib.hid hr
    clear hb hr
    by_cases hlt : t < L.length
    · have hlt2 : 0 ≤ (t : Int) ∧ (t : Int) < L.length := by omega
      obtain ⟨x, hx⟩ := nth_of hlt
      obtain ⟨b, o, A2, c2, rfl, _, hbl, c0, c1, c2', hS⟩ := (HL.out.next HB.out).at_ hx
      have HX := Lib.hid hx
      have HS := Lib.hid hS
      have hsl := HSL.out x (List.mem_iff_getElem?.2 ⟨t, hx⟩)
      clear hx hS
      obtain ⟨W1, hW1⟩ : ∃ W1, W1 = wr.alloc (.cells #[.int .i64 x.fr, .int .i64 x.tg, .slice A2 x.sl.length c2] 57) := ⟨_, rfl⟩
      have B1 : Blk W1 wr.heap.size 57 #[.int .i64 x.fr, .int .i64 x.tg, .slice A2 x.sl.length c2] := by rw [hW1]; exact Blk.new _ _ _
      have HW := Lib.hid (show Below wr.heap.size wr W1.drew by rw [hW1]; exact ((Below.refl _ wr).alloc (Nat.le_refl _) _).drew)
      have HW1 := Lib.hid hW1
      have p0 := B1.cell 0
      have p1 := B1.cell 1
      have p2 := B1.cell 2
      simp at p0 p1 p2
      have HLT := Lib.hid hlt
      have HTL := Lib.hid (show (L.take t).length = t by simp; omega)
      clear hW1 B1
      go_upto_region 5 with fail
      rw [← HW1.out]
      have HS2 := Lib.hid (HS.out.next HW.out)
      have HN1 := Lib.hid (show 0 + x.sl.length ≤ maxLen by simp only [maxLen]; omega)
      have HN2 := Lib.hid (show (0 + x.sl.length) * 8 ≤ 140737488355328 by omega)
      have HM1 := Lib.hid (show t + 1 ≤ maxLen by simp only [maxLen]; omega)
      have HM2 := Lib.hid (show (t + 1) * 40 ≤ 140737488355328 by omega)
      have HWL := Lib.hid (show wr.heap.size < W1.drew.heap.size from cell_lt (w := W1.drew) p0)
      clear c0 c1 c2'
      go_region_law (first
        | (refine step_append_sarr rfl _ _ 27 rfl W1.drew.heap.size 3 i0 _ 8 Try.underlying27 hi0 hz0 hz1 hz2 rfl (.slice none 0 0) 0 [] rfl (World.ownsRow_nil _ _ _ _) A2 x.sl.length c2 x.sl (Lt W1.drew.heap.size) rfl rfl HS2.out HN1.out HN2.out (Nat.le_refl _) ?_
           intro v1 w3 hown hgr1
           have hbn := grown_nil hgr1
           have p3 := (hbn.cell (p := ⟨wr.heap.size, 0, none⟩) HWL.out).trans p0
           have p4 := (hbn.cell (p := ⟨wr.heap.size, 1, none⟩) HWL.out).trans p1
           obtain ⟨A1, c1, rfl, hI⟩ := inn_own (lo := lo) (show w3.ownsRow W1.drew.heap.size 3 1 v1 x.sl.length (numC x.sl) by simpa using hown) rfl
           have HI := Lib.hid hI
           have HG1 := Lib.hid (HW.out.trans (hbn.mono HW.out.size))
           clear hown hgr1 hbn hI)
        | (obtain ⟨X, hX⟩ : ∃ X, X = w3.alloc (.cells #[.int .i64 x.fr, .int .i64 x.tg, .slice A1 x.sl.length c1] 57) := ⟨_, rfl⟩
           have BX : Blk X w3.heap.size 57 #[.int .i64 x.fr, .int .i64 x.tg, .slice A1 x.sl.length c1] := by rw [hX]; exact Blk.new _ _ _
           have q0 := BX.cell 0
           have q1 := BX.cell 1
           have q2 := BX.cell 2
           have HBX := Lib.hid (show Below w3.heap.size w3 X by rw [hX]; exact (Below.refl _ _).alloc (Nat.le_refl _) _)
           have HGX := Lib.hid (show Below wr.heap.size wr X from HG1.out.trans (HBX.out.mono HG1.out.size))
           obtain ⟨_, vs, hv1, hv2⟩ := HR.out.below HGX.out
           rw [HTL.out] at hv1
           have HV1 := Lib.hid hv1
           have HV2 := Lib.hid hv2
           have HXI := Lib.hid (SetV.single (HI.out.inn (w' := X) fun b _ hl => HBX.out.block b hl))
           have HNW := Lib.hid (three_news q0 q1 q2)
           have HXS := Lib.hid (Nat.le_trans HB.out.size HGX.out.size)
           clear hv1 hv2 q0 q1 q2 BX
           rw [← hX]
           clear hX
           refine step_wp rfl (wp_append_own _ _ _ 26 rfl w.heap.size 57 j0 _ 3 40 Try.underlying26 hj0 hy0 hy1 hy2 rfl (by decide) u3 t vs rfl HV1.out ⟨w3.heap.size, 0, none⟩ 1 1 [.int .i64 x.fr, .int .i64 x.tg, .slice A1 x.sl.length c1] rfl rfl HNW.out HXI.out.one HM1.out HM2.out HXS.out ?_)
           intro v2 w4 hown2 hgr2 _
           have hp := TOwn.push_ hlo HV2.out HXI.out (by rw [HTL.out]; exact HV1.out) hgr2 hown2 (by rw [HTL.out]; rfl)
           have HP : Hid (TOwn w4 w.heap.size lo v2 (L.take (t + 1))) := Lib.hid (by rw [List.take_add_one, HX.out]; exact hp)
           have HB4 := Lib.hid (show Below w.heap.size w w4 from (HB.out.trans (HGX.out.mono HB.out.size)).trans (grown_below hgr2 (row_block HV1.out) HXS.out))
           clear hown2 hgr2 hp))
      all_goals
        go_wp2
        exact ⟨⟨t + 1, by have := HLT.out; omega, by go_num, HP.out, HB4.out⟩, by have := HLT.out; simp [intOf]; omega⟩
    · have hlt2 : ¬ (t : Int) < L.length := by omega
      obtain rfl : t = L.length := by omega
      have hr := HR.out
      rw [List.take_length] at hr
      go_wp2_with fail
      go_ret
      exact ⟨_, rfl, hr, HB.out⟩
end Go.Proofs.Ytjkbjbikofindaa
