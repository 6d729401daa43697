/-
  The walk of NotationPrints. (Made by mknprints-s13.py.)
-/
import Derived.Test.YtodnicaidmilkaaDoorNAwk
namespace Go.Proofs.YtodnicaidmilkaaDoor
open Go.RowKit
set_option maxRecDepth 100000
set_option linter.unusedVariables false

/-- A configuration that may be read. -/
structure Cf where
  s : ByteArray
  A : Option Addr
  c : Nat
  R : List Rl
  f : Int
def CfOk (W : World) (x : Cf) : Prop := RArr W (Lt W.heap.size) x.A x.c x.R ∧ WfR x.R ∧ x.s.size ≤ 9223372036854775807
theorem CfOk.next {W W' : World} {x : Cf} (h : CfOk W x) (hb : Below W.heap.size W W') : CfOk W' x := ⟨h.1.next hb, h.2⟩
/-- The two configurations that the law asks of, in a block. -/
def Two (W : World) (g : Nat) : Prop := ∀ j, j < 2 → ∃ x : Cf, W.cell? ⟨g, j * 3, none⟩ = some (.string x.s) ∧ W.cell? ⟨g, j * 3 + 1, none⟩ = some (.slice x.A x.R.length x.c) ∧ W.cell? ⟨g, j * 3 + 2, none⟩ = some (.int .i64 x.f) ∧ CfOk W x
theorem two_mk {W : World} {g : Nat} {x0 x1 : Cf} (h : Blk W g 24 #[.string x0.s, .slice x0.A x0.R.length x0.c, .int .i64 x0.f, .string x1.s, .slice x1.A x1.R.length x1.c, .int .i64 x1.f])
    (h0 : CfOk W x0) (h1 : CfOk W x1) : Two W g := fun j hj => by
  rcases (by omega : j = 0 ∨ j = 1) with rfl | rfl
  · exact ⟨x0, h.cell 0, h.cell 1, h.cell 2, h0⟩
  · exact ⟨x1, h.cell 3, h.cell 4, h.cell 5, h1⟩
theorem Two.next {W W' : World} {g : Nat} (h : Two W g) (hg : g < W.heap.size) (hb : Below W.heap.size W W') : Two W' g := fun j hj => by
  obtain ⟨x, h1, h2, h3, h4⟩ := h j hj
  exact ⟨x, (hb.cell (p := ⟨g, _, none⟩) hg).trans h1, (hb.cell (p := ⟨g, _, none⟩) hg).trans h2, (hb.cell (p := ⟨g, _, none⟩) hg).trans h3, h4.next hb⟩
set_option maxHeartbeats 16000000 in
theorem walkPrints (s0 : ByteArray) (A0 : Option Addr) (c0 : Nat) (R0 : List Rl) (f0 : Int) (Al : Option Addr) (nl cl : Nat) (w : World) (hS0 : s0.size ≤ maxLen) (hR0 : RArr w (Lt w.heap.size) A0 c0 R0) (hW0 : WfR R0) (hL : ListP w w.heap.size Al nl cl) (hT : P10 w) :
    Calls Tryd.prog 3 #[.agg #[.string s0, .slice A0 R0.length c0, .int .i64 f0], .slice Al nl cl] w fun e w' => e = .returned (.bool true) ∧ Below w.heap.size w w' := by
  obtain ⟨U, hU⟩ : ∃ U, U = w.alloc (.cells #[.string s0, .slice A0 R0.length c0, .int .i64 f0] 24) := ⟨_, rfl⟩
  have hu : Below w.heap.size w U := by rw [hU]; exact (Below.refl _ _).alloc (Nat.le_refl _) _
  have BU := Lib.hid (show Blk U w.heap.size 24 #[.string s0, .slice A0 R0.length c0, .int .i64 f0] by rw [hU]; exact Blk.new _ _ _)
  have HBU := Lib.hid hu
  have HU := Lib.hid hU
  have HTU := Lib.hid (hT.next hu)
  have HR0 := Lib.hid (hR0.next hu)
  have HW0 := Lib.hid hW0
  have HL := Lib.hid (show ListP U U.heap.size Al nl cl from ⟨hL.1, hL.2.1, fun j hj => by
    obtain ⟨b, o, v, e, h1, h2, h3⟩ := hL.2.2 j hj
    exact ⟨b, o, v, e, Nat.lt_of_lt_of_le h1 hu.size, (hu.cell (p := ⟨b, o + j, none⟩) h1).trans h2, h3⟩⟩)
  have hm := hR0.2.1
  have hm' := hR0.1
  simp only [maxLen] at hm hS0
  have aw := Lib.hid (fun W h => awake_any W h)
  clear hu hU hR0 hW0 hL hT
  by_cases g1 : (20 : Int) < R0.length
  · go_enter Tryd.func3, Tryd.ntmps3
    go_wp2_with fail
    rw [← HU.out]
    refine (aw.out _ HTU.out).mono ?_
    rintro e V3 ⟨rfl, hb3⟩
    have HB3 := Lib.hid (below_step HBU.out HBU.out.size hb3)
    clear hb3
    go_wp2
    go_ret
    exact ⟨rfl, HB3.out⟩
  · by_cases g2 : (300 : Int) < s0.size
    · go_enter Tryd.func3, Tryd.ntmps3
      go_wp2_with fail
      rw [← HU.out]
      refine (aw.out _ HTU.out).mono ?_
      rintro e V3 ⟨rfl, hb3⟩
      have HB3 := Lib.hid (below_step HBU.out HBU.out.size hb3)
      clear hb3
      go_wp2
      go_ret
      exact ⟨rfl, HB3.out⟩
    · have p0 := BU.out.cell 0
      have p1 := BU.out.cell 1
      have p2 := BU.out.cell 2
      simp at p0 p1 p2
      have zU : w.heap.size < U.heap.size := BU.out.lt
      go_enter Tryd.func3, Tryd.ntmps3
      go_upto_region 3 with fail
      rw [← HU.out]
      have zw : w.heap.size < U.drew.heap.size := zU
      refine wp_region_held_drew (S := (fun w' => w'.cell? ⟨w.heap.size, 0, none⟩ = some (.string s0) ∧ w'.cell? ⟨w.heap.size, 1, none⟩ = some (.slice A0 R0.length c0) ∧ w'.cell? ⟨w.heap.size, 2, none⟩ = some (.int .i64 f0))) (by kernel_rfl) ?_ (fun hHeld => ?_)
      · exact ⟨p0, p1, p2⟩
      (refine wpAnyH_take (i := 0) (v := ?_) rfl (by kernel_rfl) (by kernel_rfl) (by kernel_rfl) (fun _ _ _ h => h) (Or.inl ⟨by rfl, ?_⟩) (by assumption) ?_; rotate_left 1; (focus (intro w' hSw; (try dsimp only at hSw); go_simp; (try with_reducible rfl); done)); try simp only [Act.put, List.setIfInBounds_toArray, List.set_cons_zero, List.set_cons_succ, List.getElem_toArray, List.getElem_cons_zero])
      (refine wpAnyH_take (i := 1) (v := ?_) rfl (by kernel_rfl) (by kernel_rfl) (by kernel_rfl) (fun _ _ _ h => h) (Or.inl ⟨by rfl, ?_⟩) (by assumption) ?_; rotate_left 1; (focus (intro w' hSw; (try dsimp only at hSw); go_simp; (try with_reducible rfl); done)); try simp only [Act.put, List.setIfInBounds_toArray, List.set_cons_zero, List.set_cons_succ, List.getElem_toArray, List.getElem_cons_zero, List.getElem_cons_succ])
      (refine wpAnyH_take (i := 6) (v := ?_) rfl (by kernel_rfl) (by kernel_rfl) (by kernel_rfl) (fun _ _ _ h => h) (Or.inl ⟨by rfl, ?_⟩) (by assumption) ?_; rotate_left 1; (focus (intro w' hSw; (try dsimp only at hSw); go_simp; (try with_reducible rfl); done)); try simp only [Act.put, List.setIfInBounds_toArray, List.set_cons_zero, List.set_cons_succ, List.getElem_toArray, List.getElem_cons_zero, List.getElem_cons_succ])
      refine wpAnyH_ready (rs := [2]) (by kernel_rfl) (by simp) ?_
      refine AllReadyH.cons rfl (fun K hK => ?_) AllReadyH.nil
      go_simp
      go_at_call 8
      refine (deck_any Al nl cl _ (show ListP U.drew U.drew.heap.size Al nl cl from HL.out)).mono ?_
      rintro e N1 ⟨rfl, hd, bN1, _⟩
      have zw : w.heap.size < U.drew.heap.size := zw
      go_wp2_with fail
      refine hK.out _ _ ⟨(bN1.cell (p := ⟨_, 0, none⟩) zw).trans hHeld.1, (bN1.cell (p := ⟨_, 1, none⟩) zw).trans hHeld.2.1, (bN1.cell (p := ⟨_, 2, none⟩) zw).trans hHeld.2.2⟩ (fun hHeld2 => ?_)
      clear hK K hHeld
      have hHeld := hHeld2
      clear hHeld2
      try simp only [Act.put, List.setIfInBounds_toArray, List.set_cons_zero, List.set_cons_succ, List.getElem_toArray, List.getElem_cons_zero, List.getElem_cons_succ]
      refine wpAnyH_ready (rs := [3]) (by kernel_rfl) (by simp) ?_
      refine AllReadyH.cons rfl (fun K hK => ?_) AllReadyH.nil
      go_simp
      go_at_call 7
      refine (cfg_any U.heap.size N1 hd).mono ?_
      rintro e N2 ⟨s, A, c, R, f, rfl, hra, hwf, hs, hc, hG⟩
      have bN2 : Below U.heap.size N1 N2 := turn_under hG (Nat.le_refl _) bN1.size
      have zw : w.heap.size < U.heap.size := zw
      go_wp2_with fail
      refine hK.out _ _ ⟨(bN2.cell (p := ⟨_, 0, none⟩) zw).trans hHeld.1, (bN2.cell (p := ⟨_, 1, none⟩) zw).trans hHeld.2.1, (bN2.cell (p := ⟨_, 2, none⟩) zw).trans hHeld.2.2⟩ (fun hHeld2 => ?_)
      clear hK K hHeld
      have hHeld := hHeld2
      clear hHeld2
      try simp only [Act.put, List.setIfInBounds_toArray, List.set_cons_zero, List.set_cons_succ, List.getElem_toArray, List.getElem_cons_zero, List.getElem_cons_succ]
      refine wpAnyH_ready (rs := [4]) (by kernel_rfl) (by simp) ?_
      refine AllReadyH.cons rfl (fun K hK => ?_) AllReadyH.nil
      go_simp
      obtain ⟨N3, hN3⟩ : ∃ W', W' = World.alloc N2 (.cells #[.string s0, .slice A0 R0.length c0, .int .i64 f0, .string s, .slice A R.length c, .int .i64 f] 24) := ⟨_, rfl⟩
      rw [← hN3]
      have bN3 : Below N2.heap.size N2 N3 := by rw [hN3]; exact (Below.refl _ _).alloc (Nat.le_refl _) _
      have B3 : Blk N3 N2.heap.size 24 #[.string s0, .slice A0 R0.length c0, .int .i64 f0, .string s, .slice A R.length c, .int .i64 f] := by rw [hN3]; exact Blk.new _ _ _
      clear hN3
      have zw2 : w.heap.size < N2.heap.size := Nat.lt_of_lt_of_le zw (Nat.le_trans bN1.size bN2.size)
      refine hK.out _ _ ⟨(bN3.cell (p := ⟨_, 0, none⟩) zw2).trans hHeld.1, (bN3.cell (p := ⟨_, 1, none⟩) zw2).trans hHeld.2.1, (bN3.cell (p := ⟨_, 2, none⟩) zw2).trans hHeld.2.2⟩ (fun hHeld2 => ?_)
      clear hK K hHeld
      have hHeld := hHeld2
      clear hHeld2
      try simp only [Act.put, List.setIfInBounds_toArray, List.set_cons_zero, List.set_cons_succ, List.getElem_toArray, List.getElem_cons_zero, List.getElem_cons_succ]
      (refine wpAnyH_take (i := 5) (v := ?_) rfl (by kernel_rfl) (by kernel_rfl) (by kernel_rfl) (fun _ _ _ h => h) (Or.inl ⟨by rfl, ?_⟩) (by assumption) ?_; rotate_left 1; (focus (intro w' hSw; (try dsimp only at hSw); go_simp; (try with_reducible rfl); done)); try simp only [Act.put, List.setIfInBounds_toArray, List.set_cons_zero, List.set_cons_succ, List.getElem_toArray, List.getElem_cons_zero, List.getElem_cons_succ])
      refine wpAnyH_done (by kernel_rfl) ?_ _
      clear hHeld
      have hN1 : Below U.heap.size U N1 := (Below.refl U.heap.size U).drew.trans (show Below U.heap.size U.drew N1 from bN1)
      have hN2 : Below U.heap.size U N2 := hN1.trans bN2
      have hN3 : Below U.heap.size U N3 := below_step hN2 hN2.size bN3
      have HF : Hid (Two N3 N2.heap.size) := Lib.hid (two_mk (x0 := ⟨s0, A0, c0, R0, f0⟩) (x1 := ⟨s, A, c, R, f⟩) B3 ⟨(HR0.out.next hN3), HW0.out, by show s0.size ≤ _; omega⟩ ⟨hra.lt.next bN3, hwf, by show s.size ≤ _; omega⟩)
      have HB3 := Lib.hid (below_step HBU.out HBU.out.size hN3)
      have HT3 := Lib.hid (HTU.out.next hN3)
      have zg : N2.heap.size < N3.heap.size := B3.lt
      clear B3 bN3 bN2 bN1 hN1 hN2 hN3 hra hwf hG hc zw zw2 p0 p1 p2 zU hd
      generalize N2.heap.size = gb at *
      go_wp2_with fail
      go_loopw [28] (fun i wr => ∃ j : Nat, j ≤ 2 ∧ i = .int .i64 j ∧ Below N3.heap.size N3 wr) (fun i _ => 2 - (intOf i).toNat)
      case atStart => exact ⟨0, by omega, rfl, Below.refl _ _⟩
      case round =>
        obtain ⟨j, hj, rfl, hbr⟩ := hrel
        have HBR := Lib.hid hbr
        by_cases hlt : j < 2
        · have hlt2 : 0 ≤ (j : Int) ∧ (j : Int) < 2 := by omega
          obtain ⟨x, k0, k1, k2, hok⟩ := HF.out.next zg hbr j hlt
          obtain ⟨X, hX⟩ : ∃ X, X = wr.alloc (.cells #[.string x.s, .slice x.A x.R.length x.c, .int .i64 x.f] 24) := ⟨_, rfl⟩
          have hbX : Below wr.heap.size wr X := by rw [hX]; exact (Below.refl _ _).alloc (Nat.le_refl _) _
          have BX : Blk X wr.heap.size 24 #[.string x.s, .slice x.A x.R.length x.c, .int .i64 x.f] := by rw [hX]; exact Blk.new _ _ _
          obtain ⟨hrx, hwx, hsx⟩ := hok.next hbX
          have HBX := Lib.hid (below_step hbr hbr.size hbX)
          have htx := HT3.out.next HBX.out
          have hp1 := Lib.hid (print_any x.s x.A x.c x.R x.f X hrx hwx htx)
          have hp2 := Lib.hid (fun W h => refPrint_any x.s x.A x.c x.R x.f W h hwx hsx)
          have HRX := Lib.hid hrx
          have BXX := Lib.hid BX
          have HXX := Lib.hid hX
          have zgr : gb < wr.heap.size := Nat.lt_of_lt_of_le zg hbr.size
          clear hX hbX BX hrx hwx hsx hok hbr htx
          go_upto_region 6 with fail
          rw [← HXX.out]
          have x0 := BXX.out.cell 0
          have x1 := BXX.out.cell 1
          have x2 := BXX.out.cell 2
          simp at x0 x1 x2
          clear k0 k1 k2
          go_wp2_with fail
          refine hp1.out.mono ?_
          rintro e W4 ⟨rfl, hb4⟩
          have HB4 := Lib.hid (below_step HBX.out HBX.out.size hb4)
          have hp3 := Lib.hid (hp2.out W4 (HRX.out.next hb4))
          have B4 := BXX.out.next hb4
          clear x0 x1 x2
          have x0 := B4.cell 0
          have x1 := B4.cell 1
          have x2 := B4.cell 2
          simp at x0 x1 x2
          have zx4 : wr.heap.size < W4.heap.size := B4.lt
          clear hb4 hp1 hp2 B4
          go_wp2_with fail
          refine hp3.out.mono ?_
          rintro e W5 ⟨rfl, hb5⟩
          have HB5 := Lib.hid (below_step HB4.out HB4.out.size hb5)
          clear hb5 hp3 x0 x1 x2
          generalize prtE x.s x.R x.f = E1 at *
          generalize prtL x.s x.R x.f = L1 at *
          go_wp2_with fail
          exact ⟨⟨j + 1, by omega, by go_num, HB5.out⟩, by simp [intOf]; omega⟩
        · have hlt2 : ¬ (j : Int) < 2 := by omega
          have HB5 := Lib.hid (below_step HB3.out HB3.out.size hbr)
          have HT5 := Lib.hid (HT3.out.next hbr)
          clear hbr
          go_wp2_with fail
          refine (aw.out _ HT5.out).mono ?_
          rintro e V3 ⟨rfl, hb3⟩
          have HB6 := Lib.hid (below_step HB5.out HB5.out.size hb3)
          clear hb3
          go_wp2
          go_ret
          exact ⟨rfl, HB6.out⟩
end Go.Proofs.YtodnicaidmilkaaDoor
