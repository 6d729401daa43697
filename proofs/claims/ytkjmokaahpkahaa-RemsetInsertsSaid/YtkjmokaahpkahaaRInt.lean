/-
  The reference's Into of remembered sets: the slots that point into frames from outside.
-/
import Derived.Test.YtkjmokaahpkahaaRDrp
namespace Go.Proofs.Ytkjmokaahpkahaa
open Go.RowKit
set_option maxRecDepth 100000
set_option linter.unusedVariables false

/-- A row of numbers and how many slots there were. -/
def GivesInto (S : List Int) (n lo : Nat) (w : World) (e : Ending) (w' : World) : Prop := ∃ A c, e = .returned (.tuple #[.slice A S.length c, .int .i64 n]) ∧ SArr w' (Inn w' lo) A c S ∧ Below w.heap.size w w'
theorem intoS_next {F : List Int} {L : List SetR} {t : Nat} {x : SetR} (h : L[t]? = some x) :
    intoS F (L.take (t + 1)) = (if inS F x = true then x.sl.foldl (fun a s => withL s a) (intoS F (L.take t)) else intoS F (L.take t)) ∧
    cntT ((L.take (t + 1)).filter (inS F)) = (if inS F x = true then cntT ((L.take t).filter (inS F)) + x.sl.length else cntT ((L.take t).filter (inS F))) := by
  rw [List.take_add_one, h]
  unfold intoS
  rw [List.filter_append]
  by_cases hi : inS F x = true
  · rw [if_pos hi, if_pos hi]
    simp [hi, List.foldl_append, cntT]
  · rw [if_neg hi, if_neg hi]
    simp [hi]
theorem cntF_le (F : List Int) (L : List SetR) (t : Nat) : cntT ((L.take t).filter (inS F)) ≤ cntT L := by
  have h1 := cnt_parts F (L.take t)
  have h2 := cntS_take L t
  omega
theorem foldw_next {S : List Int} {u : Nat} {y : Int} (h : S[u]? = some y) (a : List Int) : (S.take (u + 1)).foldl (fun a s => withL s a) a = withL y ((S.take u).foldl (fun a s => withL s a) a) := by
  rw [List.take_add_one, h]
  simp [List.foldl_append]
theorem foldw_len : ∀ (S a : List Int), (S.foldl (fun a s => withL s a) a).length ≤ a.length + S.length
  | [], a => by simp
  | x :: S, a => by
    have := foldw_len S (withL x a)
    have := (withL_len x a).2
    simp only [List.foldl_cons, List.length_cons]
    omega
theorem inS_eq (F : List Int) (x : SetR) : inS F x = (decide (x.tg ∈ F) && !decide (x.fr ∈ F)) := by simp [inS]

set_option maxHeartbeats 4000000 in
theorem into18_any (A : Option Addr) (c : Nat) (L : List SetR) (B : Option Addr) (d : Nat) (F : List Int) (w : World) (hL : TArr w (Lt w.heap.size) A c L) (hF : SArr w (Lt w.heap.size) B d F) (hn : cntT L ≤ 1048000) :
    Calls Try.prog 24 #[.slice A L.length c, .slice B F.length d] w (GivesInto (intoS F L) (cntT (L.filter (inS F))) w.heap.size w) := by
  have HF := Lib.hid hF
  have HL := Lib.hid hL
  have hm := hL.2.1
  have hm' := hL.1
  simp only [maxLen] at hm
  clear hF hL
  go_enter Try.func24, Try.ntmps24
  go_wp2_with fail
  go_loopw [6, 7, 14] (fun v n i wr => ∃ (t : Nat) (A' : Option Addr) (c' : Nat), t ≤ L.length ∧ v = .slice A' (intoS F (L.take t)).length c' ∧ n = .int .i64 (cntT ((L.take t).filter (inS F)) : Nat) ∧ i = .int .i64 t ∧ SArr wr (Inn wr w.heap.size) A' c' (intoS F (L.take t)) ∧ Below w.heap.size w wr) (fun _ _ i _ => L.length - (intOf i).toNat)
  case atStart => exact ⟨0, none, 0, by omega, rfl, rfl, rfl, SArr.nil _ _, Below.refl _ _⟩
  case round =>
    obtain ⟨t, A', c', ht, rfl, rfl, rfl, hr, hb⟩ := hrel
    have HR := Lib.hid hr
    have HB := Lib.hid hb
    clear hr hb
    by_cases hlt : t < L.length
    · have hlt2 : 0 ≤ (t : Int) ∧ (t : Int) < L.length := by omega
      obtain ⟨x, hx⟩ := nth_of hlt
      obtain ⟨b, o, A2, c2, rfl, _, hbl, c0, c1, c2', hS⟩ := (HL.out.next HB.out).at_ hx
      obtain ⟨hnx1, hnx2⟩ := intoS_next (F := F) hx
      have hcl := cntF_le F L (t + 1)
      have hcl0 := cntF_le F L t
      have hil := (intoS_facts F (L.take t)).2.2
      obtain ⟨S0, hS0⟩ : ∃ S, intoS F (L.take t) = S := ⟨_, rfl⟩
      obtain ⟨n0, hn0⟩ : ∃ n, cntT ((L.take t).filter (inS F)) = n := ⟨_, rfl⟩
      rw [hS0] at hnx1 hil HR ⊢
      rw [hn0] at hnx2 hil hcl0 ⊢
      have HNX1 := Lib.hid hnx1
      have HNX2 := Lib.hid hnx2
      have HS := Lib.hid hS
      have HCL := Lib.hid hcl
      obtain ⟨W1, hW1⟩ : ∃ W1, W1 = wr.alloc (.cells #[.int .i64 x.fr, .int .i64 x.tg, .slice A2 x.sl.length c2] 48) := ⟨_, rfl⟩
      have hb1 : Below wr.heap.size wr W1 := by rw [hW1]; exact (Below.refl _ wr).alloc (Nat.le_refl _) _
      have HB1 := Lib.hid hb1
      have HBX := Lib.hid (show Blk W1 wr.heap.size 48 #[.int .i64 x.fr, .int .i64 x.tg, .slice A2 x.sl.length c2] by rw [hW1]; exact Blk.new _ _ _)
      have HW1 := Lib.hid hW1
      have HF1 := Lib.hid (HF.out.next (HB.out.trans (hb1.mono HB.out.size)))
      obtain ⟨q1, hq1⟩ : ∃ q, decide (x.tg ∈ F) = q := ⟨_, rfl⟩
      have HQ1 := Lib.hid hq1
      have p0 := HBX.out.cell 0
      have p1 := HBX.out.cell 1
      have p2 := HBX.out.cell 2
      simp at p0 p1 p2
      clear hx hS hW1 hb1 hq1 hS0 hn0 hnx1 hnx2 hcl
      go_upto_region 6 with fail
      rw [← HW1.out]
      go_wp2_with fail
      refine (in18_any B d F x.tg W1 HF1.out).mono ?_
      rintro e W2 ⟨rfl, hb2⟩
      rw [HQ1.out]
      have HB2 := Lib.hid (HB1.out.trans (hb2.mono HB1.out.size))
      have HBX2 := Lib.hid (HBX.out.next hb2)
      have HF2 := Lib.hid (HF1.out.next hb2)
      clear p0 p1 p2 c0 c1 c2' hb2
      cases q1 with
      | false =>
        have hno : ¬ inS F x = true := by rw [inS_eq, HQ1.out]; simp
        have HNO := Lib.hid hno
        clear hno
        go_wp2_with fail
        exact ⟨⟨t + 1, A', c', by omega, by rw [HNX1.out, if_neg HNO.out], by rw [HNX2.out, if_neg HNO.out], by go_num, by rw [HNX1.out, if_neg HNO.out]; exact HR.out.inn fun b _ hl => HB2.out.block b hl, HB.out.trans (HB2.out.mono HB.out.size)⟩, by simp [intOf]; omega⟩
      | true =>
        have p0 := HBX2.out.cell 0
        have p1 := HBX2.out.cell 1
        have p2 := HBX2.out.cell 2
        simp at p0 p1 p2
        obtain ⟨q2, hq2⟩ : ∃ q, decide (x.fr ∈ F) = q := ⟨_, rfl⟩
        have HQ2 := Lib.hid hq2
        clear hq2
        go_wp2_with fail
        refine (in18_any B d F x.fr W2 HF2.out).mono ?_
        rintro e W3 ⟨rfl, hb3⟩
        rw [HQ2.out]
        have HB3 := Lib.hid (HB2.out.trans (hb3.mono HB2.out.size))
        have HBX3 := Lib.hid (HBX2.out.next hb3)
        clear p0 p1 p2 hb3
        cases q2 with
        | true =>
          have hno : ¬ inS F x = true := by rw [inS_eq, HQ1.out, HQ2.out]; simp
          have HNO := Lib.hid hno
          clear hno
          go_wp2_with fail
          exact ⟨⟨t + 1, A', c', by omega, by rw [HNX1.out, if_neg HNO.out], by rw [HNX2.out, if_neg HNO.out], by go_num, by rw [HNX1.out, if_neg HNO.out]; exact HR.out.inn fun b _ hl => HB3.out.block b hl, HB.out.trans (HB3.out.mono HB.out.size)⟩, by simp [intOf]; omega⟩
        | false =>
          have hyes : inS F x = true := by rw [inS_eq, HQ1.out, HQ2.out]; rfl
          have hnx2 := HNX2.out
          rw [if_pos hyes] at hnx2
          have hcl := HCL.out
          rw [hnx2] at hcl
          have HY1 : Hid (intoS F (L.take (t + 1)) = x.sl.foldl (fun a s => withL s a) S0) := Lib.hid (by rw [HNX1.out, if_pos hyes])
          have HY2 := Lib.hid hnx2
          have hw1 : IntKind.i64.wrap ((n0 : Int) + x.sl.length) = (n0 : Int) + x.sl.length := IntWalk.i64_in _ (by omega)
          have hsm := HS.out.2.1
          have hsm' := HS.out.1
          simp only [maxLen] at hsm
          have p0 := HBX3.out.cell 0
          have p1 := HBX3.out.cell 1
          have p2 := HBX3.out.cell 2
          simp at p0 p1 p2
          have HS3 := Lib.hid (HS.out.next HB3.out)
          have HR3 := Lib.hid (HR.out.inn (w' := W3) fun b _ hl => HB3.out.block b hl)
          have HLN := Lib.hid (show S0.length + x.sl.length ≤ 1048000 by omega)
          clear hyes hnx2 hcl
          go_wp2_with fail
          go_loopw [6, 37] (fun v i w2 => ∃ (u : Nat) (A9 : Option Addr) (c9 : Nat), u ≤ x.sl.length ∧ i = .int .i64 u ∧ v = .slice A9 ((x.sl.take u).foldl (fun a s => withL s a) S0).length c9 ∧ SArr w2 (Inn w2 w.heap.size) A9 c9 ((x.sl.take u).foldl (fun a s => withL s a) S0) ∧ Below W3.heap.size W3 w2) (fun _ i _ => x.sl.length - (intOf i).toNat)
          case atStart => exact ⟨0, A', c', by omega, rfl, rfl, HR3.out, Below.refl _ _⟩
          case round =>
            obtain ⟨u, A9, c9, hu, rfl, rfl, hr2, hb4⟩ := hrel
            have HR4 := Lib.hid hr2
            have HB4 := Lib.hid hb4
            clear hr2 hb4
            by_cases hul : u < x.sl.length
            · have hul2 : 0 ≤ (u : Int) ∧ (u : Int) < x.sl.length := by omega
              obtain ⟨y, hy⟩ := nth_of hul
              obtain ⟨b', o', rfl, _, _, d0⟩ := (HS3.out.next HB4.out).at_ hy
              have hfl := foldw_len (x.sl.take u) S0
              have HFN := Lib.hid (foldw_next hy S0)
              have hfl2 : ((x.sl.take u).foldl (fun a s => withL s a) S0).length ≤ 1048576 := by have := HLN.out; simp at hfl; omega
              clear hy hfl
              go_wp2_with fail
              refine (with_any A9 c9 _ y w.heap.size _ HR4.out hfl2).mono ?_
              rintro e W5 ⟨A7, c7, rfl, h7, hb5⟩
              rw [← HFN.out] at h7 ⊢
              have H7 := Lib.hid h7
              have HB5 := Lib.hid (HB4.out.trans (hb5.mono HB4.out.size))
              clear h7 hb5
              go_wp2_with fail
              exact ⟨⟨u + 1, A7, c7, by omega, by go_num, rfl, H7.out, HB5.out⟩, by simp [intOf]; omega⟩
            · have hul2 : ¬ (u : Int) < x.sl.length := by omega
              obtain rfl : u = x.sl.length := by omega
              have h4 := HR4.out
              rw [List.take_length] at h4 ⊢
              have H4 := Lib.hid h4
              clear h4
              go_wp2_with fail
              exact ⟨⟨t + 1, A9, c9, by omega, by rw [HY1.out], by rw [HY2.out]; go_num, by go_num, by rw [HY1.out]; exact H4.out, HB.out.trans ((HB3.out.trans (HB4.out.mono HB3.out.size)).mono HB.out.size)⟩, by simp [intOf]; omega⟩
    · have hlt2 : ¬ (t : Int) < L.length := by omega
      obtain rfl : t = L.length := by omega
      have hr := HR.out
      rw [List.take_length] at hr ⊢
      go_wp2_with fail
      go_ret2
      exact ⟨A', c', rfl, hr, HB.out⟩
end Go.Proofs.Ytkjmokaahpkahaa
