/-
  The walk of ConfigChecks.
-/
import Derived.Test.YtaeaneakpkkcnaaCSpl
import Derived.Test.YtaeaneakpkkcnaaCRcp
import Derived.Test.YtaeaneakpkkcnaaWCaps
namespace Go.Proofs.Ytaeaneakpkkcnaa
open Go.RowKit
set_option maxRecDepth 100000
set_option linter.unusedVariables false

/-- A configuration that may be read. -/
structure Cf where
  s : ByteArray
  A : Option Addr
  c : Nat
  R : List Rl
  f : Int
def CfOk (W : World) (x : Cf) : Prop := RArr W (Lt W.heap.size) x.A x.c x.R ∧ WfR x.R ∧ x.s.size ≤ 9223372036854775807
theorem CfOk.next {W W' : World} {x : Cf} (h : CfOk W x) (hb : Below W.heap.size W W') : CfOk W' x := ⟨h.1.next hb, h.2⟩
/-- The four configurations that the law asks of, in a block. -/
def Four (W : World) (g : Nat) : Prop := ∀ j, j < 4 → ∃ x : Cf, W.cell? ⟨g, j * 3, none⟩ = some (.string x.s) ∧ W.cell? ⟨g, j * 3 + 1, none⟩ = some (.slice x.A x.R.length x.c) ∧ W.cell? ⟨g, j * 3 + 2, none⟩ = some (.int .i64 x.f) ∧ CfOk W x
theorem four_mk {W : World} {g : Nat} {x0 x1 x2 x3 : Cf} (h : Blk W g 24 #[.string x0.s, .slice x0.A x0.R.length x0.c, .int .i64 x0.f, .string x1.s, .slice x1.A x1.R.length x1.c, .int .i64 x1.f, .string x2.s, .slice x2.A x2.R.length x2.c, .int .i64 x2.f, .string x3.s, .slice x3.A x3.R.length x3.c, .int .i64 x3.f])
    (h0 : CfOk W x0) (h1 : CfOk W x1) (h2 : CfOk W x2) (h3 : CfOk W x3) : Four W g := fun j hj => by
  rcases (by omega : j = 0 ∨ j = 1 ∨ j = 2 ∨ j = 3) with rfl | rfl | rfl | rfl
  · exact ⟨x0, h.cell 0, h.cell 1, h.cell 2, h0⟩
  · exact ⟨x1, h.cell 3, h.cell 4, h.cell 5, h1⟩
  · exact ⟨x2, h.cell 6, h.cell 7, h.cell 8, h2⟩
  · exact ⟨x3, h.cell 9, h.cell 10, h.cell 11, h3⟩
theorem Four.next {W W' : World} {g : Nat} (h : Four W g) (hg : g < W.heap.size) (hb : Below W.heap.size W W') : Four W' g := fun j hj => by
  obtain ⟨x, h1, h2, h3, h4⟩ := h j hj
  exact ⟨x, (hb.cell (p := ⟨g, _, none⟩) hg).trans h1, (hb.cell (p := ⟨g, _, none⟩) hg).trans h2, (hb.cell (p := ⟨g, _, none⟩) hg).trans h3, h4.next hb⟩
theorem CK1 (s : ByteArray) (A : Option Addr) (c : Nat) (R : List Rl) (f : Int) (w : World) (hR : RArr w (Lt w.heap.size) A c R) (hW : WfR R) :
    Calls Try.prog 10 #[.agg #[.string s, .slice A R.length c, .int .i64 f]] w fun e w' => e = .returned (.int .i64 (chk s R f)) ∧ Below w.heap.size w w' := check_any s A c R f w hR hW
theorem CK2 (s : ByteArray) (A : Option Addr) (c : Nat) (R : List Rl) (f : Int) (w : World) (hR : RArr w (Lt w.heap.size) A c R) (hW : WfR R) (hs : s.size ≤ 9223372036854775807) :
    Calls Try.prog 11 #[.agg #[.string s, .slice A R.length c, .int .i64 f]] w fun e w' => e = .returned (.int .i64 (chk s R f)) ∧ Below w.heap.size w w' := refCheck_any s A c R f w hR hW hs
theorem CK3 (s : ByteArray) (A : Option Addr) (c : Nat) (R : List Rl) (f : Int) (w : World) (hR : RArr w (Lt w.heap.size) A c R) (hW : WfR R) :
    Calls Try.prog 12 #[.agg #[.string s, .slice A R.length c, .int .i64 f]] w fun e w' => e = .returned (.bool (cplB s R f)) ∧ Below w.heap.size w w' := complete_any s A c R f w hR hW
theorem CK4 (s : ByteArray) (A : Option Addr) (c : Nat) (R : List Rl) (f : Int) (w : World) (hR : RArr w (Lt w.heap.size) A c R) (hW : WfR R) (hs : s.size ≤ 9223372036854775807) :
    Calls Try.prog 13 #[.agg #[.string s, .slice A R.length c, .int .i64 f]] w fun e w' => e = .returned (.bool (cplB s R f)) ∧ Below w.heap.size w w' := refComplete_any s A c R f w hR hW hs

theorem CP1 (s : ByteArray) (A : Option Addr) (c : Nat) (R : List Rl) (f b n : Int) (w : World) (hR : RArr w (Lt w.heap.size) A c R) (hW : WfR R) :
    Calls Try.prog 15 #[.agg #[.string s, .slice A R.length c, .int .i64 f], .int .i64 b, .int .i64 n] w fun e w' => e = .returned (.tuple #[.int .i64 (capK s R f b n), .int .i64 (capE s R f b n)]) ∧ Below w.heap.size w w' := cap_any s A c R f b n w hR hW
theorem CP2 (s : ByteArray) (A : Option Addr) (c : Nat) (R : List Rl) (f b n : Int) (w : World) (hR : RArr w (Lt w.heap.size) A c R) (hW : WfR R) (hs : s.size ≤ 9223372036854775807) :
    Calls Try.prog 16 #[.agg #[.string s, .slice A R.length c, .int .i64 f], .int .i64 b, .int .i64 n] w fun e w' => e = .returned (.tuple #[.int .i64 (capK s R f b n), .int .i64 (capE s R f b n)]) ∧ Below w.heap.size w w' := refCap_any s A c R f b n w hR hW hs
set_option maxHeartbeats 16000000 in
theorem walkChecks (s0 : ByteArray) (A0 : Option Addr) (c0 : Nat) (R0 : List Rl) (f0 : Int) (Al : Option Addr) (nl cl : Nat) (a2 a3 a4 a5 a6 : Int) (w : World) (hS0 : s0.size ≤ maxLen) (hR0 : RArr w (Lt w.heap.size) A0 c0 R0) (hW0 : WfR R0) (hL : ListP w w.heap.size Al nl cl)
    (l2 : -9223372036854775808 ≤ a2) (u2 : a2 ≤ 9223372036854775807) (l3 : -9223372036854775808 ≤ a3) (u3 : a3 ≤ 9223372036854775807) (l4 : -9223372036854775808 ≤ a4) (u4 : a4 ≤ 9223372036854775807) (l5 : -9223372036854775808 ≤ a5) (u5 : a5 ≤ 9223372036854775807) (l6 : -9223372036854775808 ≤ a6) (u6 : a6 ≤ 9223372036854775807) :
    Calls Try.prog 3 #[.agg #[.string s0, .slice A0 R0.length c0, .int .i64 f0], .slice Al nl cl, .int .i64 a2, .int .i64 a3, .int .i64 a4, .int .i64 a5, .int .i64 a6] w fun e w' => e = .returned (.bool true) ∧ Below w.heap.size w w' := by
  obtain ⟨U, hU⟩ : ∃ U, U = w.alloc (.cells #[.string s0, .slice A0 R0.length c0, .int .i64 f0] 24) := ⟨_, rfl⟩
  have hu : Below w.heap.size w U := by rw [hU]; exact (Below.refl _ _).alloc (Nat.le_refl _) _
  have BU := Lib.hid (show Blk U w.heap.size 24 #[.string s0, .slice A0 R0.length c0, .int .i64 f0] by rw [hU]; exact Blk.new _ _ _)
  have HBU := Lib.hid hu
  have HU := Lib.hid hU
  have HR0 := Lib.hid (hR0.next hu)
  have HW0 := Lib.hid hW0
  have HL := Lib.hid (show ListP U U.heap.size Al nl cl from ⟨hL.1, hL.2.1, fun j hj => by
    obtain ⟨b, o, v, e, h1, h2, h3⟩ := hL.2.2 j hj
    exact ⟨b, o, v, e, Nat.lt_of_lt_of_le h1 hu.size, (hu.cell (p := ⟨b, o + j, none⟩) h1).trans h2, h3⟩⟩)
  have hm := hR0.2.1
  have hm' := hR0.1
  simp only [maxLen] at hm hS0
  have aw := fun W => awake_any W
  clear hu hU hR0 hW0 hL
  by_cases g1 : (20 : Int) < R0.length
  · go_enter Try.func3, Try.ntmps3
    go_wp2_with fail
    rw [← HU.out]
    refine (aw _).mono ?_
    rintro e V3 ⟨rfl, hb3⟩
    have HB3 := Lib.hid (below_step HBU.out HBU.out.size hb3)
    clear aw hb3
    go_wp2
    go_ret
    exact ⟨rfl, HB3.out⟩
  · by_cases g2 : (300 : Int) < s0.size
    · go_enter Try.func3, Try.ntmps3
      go_wp2_with fail
      rw [← HU.out]
      refine (aw _).mono ?_
      rintro e V3 ⟨rfl, hb3⟩
      have HB3 := Lib.hid (below_step HBU.out HBU.out.size hb3)
      clear aw hb3
      go_wp2
      go_ret
      exact ⟨rfl, HB3.out⟩
    · go_enter Try.func3, Try.ntmps3
      go_wp2_with fail
      rw [← HU.out]
      refine (deck_any Al nl cl U HL.out).mono ?_
      rintro e U2 ⟨rfl, hd, hb, hz⟩
      have HDK := Lib.hid hd
      have HBU2 := Lib.hid hb
      clear hd hb
      go_wp2_with fail
      refine (cfg_any U.heap.size U2 HDK.out).mono ?_
      rintro e U3 ⟨s, A, c, R, f, rfl, hra, hwf, hs, hc, hG⟩
      have HBU3 := Lib.hid (below_turn HBU2.out hG (Nat.le_refl _))
      obtain ⟨V, hV⟩ : ∃ V, V = U3.alloc (.cells #[.string s, .slice A R.length c, .int .i64 f] 24) := ⟨_, rfl⟩
      have hbv : Below U3.heap.size U3 V := by rw [hV]; exact (Below.refl _ _).alloc (Nat.le_refl _) _
      obtain ⟨cb, hcb⟩ : ∃ b, b = U3.heap.size := ⟨_, rfl⟩
      have BY : Blk V cb 24 #[.string s, .slice A R.length c, .int .i64 f] := by rw [hV, hcb]; exact Blk.new _ _ _
      have HBUV := below_step HBU3.out HBU3.out.size hbv
      have BUV := BU.out.next HBUV
      have HBV := Lib.hid (below_step HBU.out HBU.out.size HBUV)
      have HRA := Lib.hid (hra.lt.next hbv)
      have HWF := Lib.hid hwf
      have HR0V := Lib.hid (HR0.out.next HBUV)
      have HV := Lib.hid hV
      have HCB := Lib.hid hcb
      have hln : R.length ≤ 4 := (chk_ok hc).2.2.1
      have p0 := BUV.cell 0
      have p1 := BUV.cell 1
      have p2 := BUV.cell 2
      have q0 := BY.cell 0
      have q1 := BY.cell 1
      have q2 := BY.cell 2
      simp at p0 p1 p2 q0 q1 q2
      have zwV : w.heap.size < V.heap.size := BUV.lt
      have zcV : cb < V.heap.size := BY.lt
      clear hV hbv hra hwf hc hG hcb BY BUV HBUV
      go_upto_region 4 with fail
      rw [← HV.out, ← HCB.out]
      have zw : w.heap.size < V.drew.heap.size := zwV
      have zc : cb < V.drew.heap.size := zcV
      have hc0 : Below V.heap.size V V.drew := (Below.refl _ _).drew
      refine wp_region_held_drew (S := (fun w' => w'.cell? ⟨w.heap.size, 0, none⟩ = some (.string s0) ∧ w'.cell? ⟨w.heap.size, 1, none⟩ = some (.slice A0 R0.length c0) ∧ w'.cell? ⟨w.heap.size, 2, none⟩ = some (.int .i64 f0) ∧ w'.cell? ⟨cb, 0, none⟩ = some (.string s) ∧ w'.cell? ⟨cb, 1, none⟩ = some (.slice A R.length c) ∧ w'.cell? ⟨cb, 2, none⟩ = some (.int .i64 f))) (by kernel_rfl) ?_ (fun hHeld => ?_)
      · exact ⟨p0, p1, p2, q0, q1, q2⟩
      (refine wpAnyH_take (i := 0) (v := ?_) rfl (by kernel_rfl) (by kernel_rfl) (by kernel_rfl) (fun _ _ _ h => h) (Or.inl ⟨by rfl, ?_⟩) (by assumption) ?_; rotate_left 1; (focus (intro w' hSw; (try dsimp only at hSw); go_simp; (try with_reducible rfl); done)); try simp only [Act.put, List.setIfInBounds_toArray, List.set_cons_zero, List.set_cons_succ, List.getElem_toArray, List.getElem_cons_zero])
      (refine wpAnyH_take (i := 1) (v := ?_) rfl (by kernel_rfl) (by kernel_rfl) (by kernel_rfl) (fun _ _ _ h => h) (Or.inl ⟨by rfl, ?_⟩) (by assumption) ?_; rotate_left 1; (focus (intro w' hSw; (try dsimp only at hSw); go_simp; (try with_reducible rfl); done)); try simp only [Act.put, List.setIfInBounds_toArray, List.set_cons_zero, List.set_cons_succ, List.getElem_toArray, List.getElem_cons_zero, List.getElem_cons_succ])
      (refine wpAnyH_take (i := 2) (v := ?_) rfl (by kernel_rfl) (by kernel_rfl) (by kernel_rfl) (fun _ _ _ h => h) (Or.inl ⟨by rfl, ?_⟩) (by assumption) ?_; rotate_left 1; (focus (intro w' hSw; (try dsimp only at hSw); go_simp; (try with_reducible rfl); done)); try simp only [Act.put, List.setIfInBounds_toArray, List.set_cons_zero, List.set_cons_succ, List.getElem_toArray, List.getElem_cons_zero, List.getElem_cons_succ])
      (refine wpAnyH_take (i := 3) (v := ?_) rfl (by kernel_rfl) (by kernel_rfl) (by kernel_rfl) (fun _ _ _ h => h) (Or.inl ⟨by rfl, ?_⟩) (by assumption) ?_; rotate_left 1; (focus (intro w' hSw; (try dsimp only at hSw); go_simp; (try with_reducible rfl); done)); try simp only [Act.put, List.setIfInBounds_toArray, List.set_cons_zero, List.set_cons_succ, List.getElem_toArray, List.getElem_cons_zero, List.getElem_cons_succ])
      (refine wpAnyH_take (i := 4) (v := ?_) rfl (by kernel_rfl) (by kernel_rfl) (by kernel_rfl) (fun _ _ _ h => h) (Or.inl ⟨by rfl, ?_⟩) (by assumption) ?_; rotate_left 1; (focus (intro w' hSw; (try dsimp only at hSw); go_simp; (try with_reducible rfl); done)); try simp only [Act.put, List.setIfInBounds_toArray, List.set_cons_zero, List.set_cons_succ, List.getElem_toArray, List.getElem_cons_zero, List.getElem_cons_succ])
      (refine wpAnyH_take (i := 5) (v := ?_) rfl (by kernel_rfl) (by kernel_rfl) (by kernel_rfl) (fun _ _ _ h => h) (Or.inl ⟨by rfl, ?_⟩) (by assumption) ?_; rotate_left 1; (focus (intro w' hSw; (try dsimp only at hSw); go_simp; (try with_reducible rfl); done)); try simp only [Act.put, List.setIfInBounds_toArray, List.set_cons_zero, List.set_cons_succ, List.getElem_toArray, List.getElem_cons_zero, List.getElem_cons_succ])
      (refine wpAnyH_take (i := 7) (v := ?_) rfl (by kernel_rfl) (by kernel_rfl) (by kernel_rfl) (fun _ _ _ h => h) (Or.inl ⟨by rfl, ?_⟩) (by assumption) ?_; rotate_left 1; (focus (intro w' hSw; (try dsimp only at hSw); go_simp; (try with_reducible rfl); done)); try simp only [Act.put, List.setIfInBounds_toArray, List.set_cons_zero, List.set_cons_succ, List.getElem_toArray, List.getElem_cons_zero, List.getElem_cons_succ])
      (refine wpAnyH_take (i := 8) (v := ?_) rfl (by kernel_rfl) (by kernel_rfl) (by kernel_rfl) (fun _ _ _ h => h) (Or.inl ⟨by rfl, ?_⟩) (by assumption) ?_; rotate_left 1; (focus (intro w' hSw; (try dsimp only at hSw); go_simp; (try with_reducible rfl); done)); try simp only [Act.put, List.setIfInBounds_toArray, List.set_cons_zero, List.set_cons_succ, List.getElem_toArray, List.getElem_cons_zero, List.getElem_cons_succ])
      (refine wpAnyH_take (i := 9) (v := ?_) rfl (by kernel_rfl) (by kernel_rfl) (by kernel_rfl) (fun _ _ _ h => h) (Or.inl ⟨by rfl, ?_⟩) (by assumption) ?_; rotate_left 1; (focus (intro w' hSw; (try dsimp only at hSw); go_simp; (try with_reducible rfl); done)); try simp only [Act.put, List.setIfInBounds_toArray, List.set_cons_zero, List.set_cons_succ, List.getElem_toArray, List.getElem_cons_zero, List.getElem_cons_succ])
      (refine wpAnyH_take (i := 10) (v := ?_) rfl (by kernel_rfl) (by kernel_rfl) (by kernel_rfl) (fun _ _ _ h => h) (Or.inl ⟨by rfl, ?_⟩) (by assumption) ?_; rotate_left 1; (focus (intro w' hSw; (try dsimp only at hSw); go_simp; (try with_reducible rfl); done)); try simp only [Act.put, List.setIfInBounds_toArray, List.set_cons_zero, List.set_cons_succ, List.getElem_toArray, List.getElem_cons_zero, List.getElem_cons_succ])
      (refine wpAnyH_take (i := 12) (v := ?_) rfl (by kernel_rfl) (by kernel_rfl) (by kernel_rfl) (fun _ _ _ h => h) (Or.inl ⟨by rfl, ?_⟩) (by assumption) ?_; rotate_left 1; (focus (intro w' hSw; (try dsimp only at hSw); go_simp; (try with_reducible rfl); done)); try simp only [Act.put, List.setIfInBounds_toArray, List.set_cons_zero, List.set_cons_succ, List.getElem_toArray, List.getElem_cons_zero, List.getElem_cons_succ])
      (refine wpAnyH_take (i := 13) (v := ?_) rfl (by kernel_rfl) (by kernel_rfl) (by kernel_rfl) (fun _ _ _ h => h) (Or.inl ⟨by rfl, ?_⟩) (by assumption) ?_; rotate_left 1; (focus (intro w' hSw; (try dsimp only at hSw); go_simp; (try with_reducible rfl); done)); try simp only [Act.put, List.setIfInBounds_toArray, List.set_cons_zero, List.set_cons_succ, List.getElem_toArray, List.getElem_cons_zero, List.getElem_cons_succ])
      (refine wpAnyH_take (i := 14) (v := ?_) rfl (by kernel_rfl) (by kernel_rfl) (by kernel_rfl) (fun _ _ _ h => h) (Or.inl ⟨by rfl, ?_⟩) (by assumption) ?_; rotate_left 1; (focus (intro w' hSw; (try dsimp only at hSw); go_simp; (try with_reducible rfl); done)); try simp only [Act.put, List.setIfInBounds_toArray, List.set_cons_zero, List.set_cons_succ, List.getElem_toArray, List.getElem_cons_zero, List.getElem_cons_succ])
      (refine wpAnyH_take (i := 18) (v := ?_) rfl (by kernel_rfl) (by kernel_rfl) (by kernel_rfl) (fun _ _ _ h => h) (Or.inl ⟨by rfl, ?_⟩) (by assumption) ?_; rotate_left 1; (focus (intro w' hSw; (try dsimp only at hSw); go_simp; (try with_reducible rfl); done)); try simp only [Act.put, List.setIfInBounds_toArray, List.set_cons_zero, List.set_cons_succ, List.getElem_toArray, List.getElem_cons_zero, List.getElem_cons_succ])
      refine wpAnyH_ready (rs := [6]) (by kernel_rfl) (by simp) ?_
      refine AllReadyH.cons rfl (fun K hK => ?_) AllReadyH.nil
      go_simp
      go_at_call 9
      refine (spoilt_any s A c R f a2 a3 a4 _ (show RArr V.drew (Lt V.drew.heap.size) A c R from HRA.out) HWF.out (by omega) (by omega) l2 u2 l3 u3 l4 u4).mono ?_
      rintro e N1 ⟨s1, A1, c1, R1, f1, rfl, hr1, wf1, sz1, ln1, bN1⟩
      have zw : w.heap.size < V.drew.heap.size := zw
      have zc : cb < V.drew.heap.size := zc
      go_wp2_with fail
      refine hK.out _ _ ⟨(bN1.cell (p := ⟨_, 0, none⟩) zw).trans hHeld.1, (bN1.cell (p := ⟨_, 1, none⟩) zw).trans hHeld.2.1, (bN1.cell (p := ⟨_, 2, none⟩) zw).trans hHeld.2.2.1, (bN1.cell (p := ⟨_, 0, none⟩) zc).trans hHeld.2.2.2.1, (bN1.cell (p := ⟨_, 1, none⟩) zc).trans hHeld.2.2.2.2.1, (bN1.cell (p := ⟨_, 2, none⟩) zc).trans hHeld.2.2.2.2.2⟩ (fun hHeld2 => ?_)
      clear hK K hHeld
      have hHeld := hHeld2
      clear hHeld2
      try simp only [Act.put, List.setIfInBounds_toArray, List.set_cons_zero, List.set_cons_succ, List.getElem_toArray, List.getElem_cons_zero, List.getElem_cons_succ]
      have zw : w.heap.size < N1.heap.size := Nat.lt_of_lt_of_le zw bN1.size
      have zc : cb < N1.heap.size := Nat.lt_of_lt_of_le zc bN1.size
      have ra2 := (show RArr V.drew (Lt V.drew.heap.size) A c R from HRA.out).next bN1
      refine wpAnyH_ready (rs := [11]) (by kernel_rfl) (by simp) ?_
      refine AllReadyH.cons rfl (fun K hK => ?_) AllReadyH.nil
      go_simp
      go_at_call 9
      refine (spoilt_any s A c R f a2 a3 a4 _ ra2 HWF.out (by omega) (by omega) l2 u2 l3 u3 l4 u4).mono ?_
      rintro e N2 ⟨s2, A2, c2, R2, f2, rfl, hr2, wf2, sz2, ln2, bN2⟩
      have zw : w.heap.size < N1.heap.size := zw
      have zc : cb < N1.heap.size := zc
      go_wp2_with fail
      refine hK.out _ _ ⟨(bN2.cell (p := ⟨_, 0, none⟩) zw).trans hHeld.1, (bN2.cell (p := ⟨_, 1, none⟩) zw).trans hHeld.2.1, (bN2.cell (p := ⟨_, 2, none⟩) zw).trans hHeld.2.2.1, (bN2.cell (p := ⟨_, 0, none⟩) zc).trans hHeld.2.2.2.1, (bN2.cell (p := ⟨_, 1, none⟩) zc).trans hHeld.2.2.2.2.1, (bN2.cell (p := ⟨_, 2, none⟩) zc).trans hHeld.2.2.2.2.2⟩ (fun hHeld2 => ?_)
      clear hK K hHeld
      have hHeld := hHeld2
      clear hHeld2
      try simp only [Act.put, List.setIfInBounds_toArray, List.set_cons_zero, List.set_cons_succ, List.getElem_toArray, List.getElem_cons_zero, List.getElem_cons_succ]
      have zw : w.heap.size < N2.heap.size := Nat.lt_of_lt_of_le zw bN2.size
      have zc : cb < N2.heap.size := Nat.lt_of_lt_of_le zc bN2.size
      have r22 := hr2.lt
      refine wpAnyH_ready (rs := [15]) (by kernel_rfl) (by simp) ?_
      refine AllReadyH.cons rfl (fun K hK => ?_) AllReadyH.nil
      go_simp
      go_at_call 9
      refine (spoilt_any s2 A2 c2 R2 f2 a4 a3 a2 _ r22 wf2 sz2 (by omega) l4 u4 l3 u3 l2 u2).mono ?_
      rintro e N3 ⟨s3, A3, c3, R3, f3, rfl, hr3, wf3, sz3, ln3, bN3⟩
      have zw : w.heap.size < N2.heap.size := zw
      have zc : cb < N2.heap.size := zc
      go_wp2_with fail
      refine hK.out _ _ ⟨(bN3.cell (p := ⟨_, 0, none⟩) zw).trans hHeld.1, (bN3.cell (p := ⟨_, 1, none⟩) zw).trans hHeld.2.1, (bN3.cell (p := ⟨_, 2, none⟩) zw).trans hHeld.2.2.1, (bN3.cell (p := ⟨_, 0, none⟩) zc).trans hHeld.2.2.2.1, (bN3.cell (p := ⟨_, 1, none⟩) zc).trans hHeld.2.2.2.2.1, (bN3.cell (p := ⟨_, 2, none⟩) zc).trans hHeld.2.2.2.2.2⟩ (fun hHeld2 => ?_)
      clear hK K hHeld
      have hHeld := hHeld2
      clear hHeld2
      try simp only [Act.put, List.setIfInBounds_toArray, List.set_cons_zero, List.set_cons_succ, List.getElem_toArray, List.getElem_cons_zero, List.getElem_cons_succ]
      have zw : w.heap.size < N3.heap.size := Nat.lt_of_lt_of_le zw bN3.size
      have zc : cb < N3.heap.size := Nat.lt_of_lt_of_le zc bN3.size
      refine wpAnyH_ready (rs := [16]) (by kernel_rfl) (by simp) ?_
      refine AllReadyH.cons rfl (fun K hK => ?_) AllReadyH.nil
      go_simp
      obtain ⟨N4, hN4⟩ : ∃ W', W' = World.alloc N3 (.cells #[.string s0, .slice A0 R0.length c0, .int .i64 f0, .string s, .slice A R.length c, .int .i64 f, .string s1, .slice A1 R1.length c1, .int .i64 f1, .string s3, .slice A3 R3.length c3, .int .i64 f3] 24) := ⟨_, rfl⟩
      rw [← hN4]
      have bN4 : Below N3.heap.size N3 N4 := by rw [hN4]; exact (Below.refl _ _).alloc (Nat.le_refl _) _
      have B4 : Blk N4 N3.heap.size 24 #[.string s0, .slice A0 R0.length c0, .int .i64 f0, .string s, .slice A R.length c, .int .i64 f, .string s1, .slice A1 R1.length c1, .int .i64 f1, .string s3, .slice A3 R3.length c3, .int .i64 f3] := by rw [hN4]; exact Blk.new _ _ _
      clear hN4
      refine hK.out _ _ ⟨(bN4.cell (p := ⟨_, 0, none⟩) zw).trans hHeld.1, (bN4.cell (p := ⟨_, 1, none⟩) zw).trans hHeld.2.1, (bN4.cell (p := ⟨_, 2, none⟩) zw).trans hHeld.2.2.1, (bN4.cell (p := ⟨_, 0, none⟩) zc).trans hHeld.2.2.2.1, (bN4.cell (p := ⟨_, 1, none⟩) zc).trans hHeld.2.2.2.2.1, (bN4.cell (p := ⟨_, 2, none⟩) zc).trans hHeld.2.2.2.2.2⟩ (fun hHeld2 => ?_)
      clear hK K hHeld
      have hHeld := hHeld2
      clear hHeld2
      try simp only [Act.put, List.setIfInBounds_toArray, List.set_cons_zero, List.set_cons_succ, List.getElem_toArray, List.getElem_cons_zero, List.getElem_cons_succ]
      (refine wpAnyH_take (i := 17) (v := ?_) rfl (by kernel_rfl) (by kernel_rfl) (by kernel_rfl) (fun _ _ _ h => h) (Or.inl ⟨by rfl, ?_⟩) (by assumption) ?_; rotate_left 1; (focus (intro w' hSw; (try dsimp only at hSw); go_simp; (try with_reducible rfl); done)); try simp only [Act.put, List.setIfInBounds_toArray, List.set_cons_zero, List.set_cons_succ, List.getElem_toArray, List.getElem_cons_zero, List.getElem_cons_succ])
      refine wpAnyH_done (by kernel_rfl) ?_ _
      clear hHeld
      have hbw : Below w.heap.size w N4 := below_step (below_step (below_step (below_step (below_step HBV.out HBV.out.size hc0) (Nat.le_of_lt zwV) bN1) (by omega) bN2) (by omega) bN3) (by omega) bN4
      have HF : Hid (Four N4 N3.heap.size) := Lib.hid (four_mk (x0 := ⟨s0, A0, c0, R0, f0⟩) (x1 := ⟨s, A, c, R, f⟩) (x2 := ⟨s1, A1, c1, R1, f1⟩) (x3 := ⟨s3, A3, c3, R3, f3⟩) B4
        ⟨((((show RArr V.drew (Lt V.drew.heap.size) A0 c0 R0 from HR0V.out).next bN1).next bN2).next bN3).next bN4, HW0.out, by show s0.size ≤ _; omega⟩ ⟨((ra2.next bN2).next bN3).next bN4, HWF.out, by show s.size ≤ _; omega⟩
        ⟨((hr1.lt.next bN2).next bN3).next bN4, wf1, by show s1.size ≤ _; omega⟩ ⟨hr3.lt.next bN4, wf3, by show s3.size ≤ _; omega⟩)
      have HBN := Lib.hid hbw
      have zg4 : N3.heap.size < N4.heap.size := B4.lt
      clear hbw B4 bN4 bN3 bN2 bN1 hr1 hr2 hr3 wf1 wf2 wf3 ra2 r22 zw zc hc0 p0 p1 p2 q0 q1 q2 zwV zcV HR0V HRA HWF HBV HV HCB HDK HBU2 HBU3 HL HBU HU HR0 HW0 BU
      generalize N3.heap.size = gb at *
      go_wp2_with fail
      go_loopw [56] (fun i wr => ∃ j : Nat, j ≤ 4 ∧ i = .int .i64 j ∧ Below N4.heap.size N4 wr) (fun i _ => 4 - (intOf i).toNat)
      case atStart => exact ⟨0, by omega, rfl, Below.refl _ _⟩
      case round =>
        obtain ⟨j, hj, rfl, hbr⟩ := hrel
        have HBR := Lib.hid hbr
        by_cases hlt : j < 4
        · have hlt2 : 0 ≤ (j : Int) ∧ (j : Int) < 4 := by omega
          obtain ⟨x, k0, k1, k2, hok⟩ := HF.out.next zg4 hbr j hlt
          obtain ⟨X, hX⟩ : ∃ X, X = wr.alloc (.cells #[.string x.s, .slice x.A x.R.length x.c, .int .i64 x.f] 24) := ⟨_, rfl⟩
          have hbX : Below wr.heap.size wr X := by rw [hX]; exact (Below.refl _ _).alloc (Nat.le_refl _) _
          have BX : Blk X wr.heap.size 24 #[.string x.s, .slice x.A x.R.length x.c, .int .i64 x.f] := by rw [hX]; exact Blk.new _ _ _
          obtain ⟨hrx, hwx, hsx⟩ := hok.next hbX
          have HRX := Lib.hid hrx
          have HWX := Lib.hid hwx
          have HSX := Lib.hid hsx
          have HXX := Lib.hid hX
          have HBX := Lib.hid (below_step hbr hbr.size hbX)
          obtain ⟨xb, hxb⟩ : ∃ b, b = wr.heap.size := ⟨_, rfl⟩
          have HXB := Lib.hid hxb
          rw [← hxb] at BX
          have x0 := BX.cell 0
          have x1 := BX.cell 1
          have x2 := BX.cell 2
          simp at x0 x1 x2
          have zx : xb < X.heap.size := BX.lt
          have zxX : xb < X.heap.size := BX.lt
          clear hX hbX BX hrx hwx hsx hok hbr hxb
          go_upto_region 7 with fail
          rw [← HXX.out, ← HXB.out]
          have zx : xb < X.drew.heap.size := zx
          refine wp_region_held_drew (S := (fun w' => w'.cell? ⟨xb, 0, none⟩ = some (.string x.s) ∧ w'.cell? ⟨xb, 1, none⟩ = some (.slice x.A x.R.length x.c) ∧ w'.cell? ⟨xb, 2, none⟩ = some (.int .i64 x.f))) (by kernel_rfl) ?_ (fun hHeld => ?_)
          · exact ⟨x0, x1, x2⟩
          (refine wpAnyH_take (i := 0) (v := ?_) rfl (by kernel_rfl) (by kernel_rfl) (by kernel_rfl) (fun _ _ _ h => h) (Or.inl ⟨by rfl, ?_⟩) (by assumption) ?_; rotate_left 1; (focus (intro w' hSw; (try dsimp only at hSw); go_simp; (try with_reducible rfl); done)); try simp only [Act.put, List.setIfInBounds_toArray, List.set_cons_zero, List.set_cons_succ, List.getElem_toArray, List.getElem_cons_zero])
          (refine wpAnyH_take (i := 2) (v := ?_) rfl (by kernel_rfl) (by kernel_rfl) (by kernel_rfl) (fun _ _ _ h => h) (Or.inl ⟨by rfl, ?_⟩) (by assumption) ?_; rotate_left 1; (focus (intro w' hSw; (try dsimp only at hSw); go_simp; (try with_reducible rfl); done)); try simp only [Act.put, List.setIfInBounds_toArray, List.set_cons_zero, List.set_cons_succ, List.getElem_toArray, List.getElem_cons_zero, List.getElem_cons_succ])
          have ra1 := (show RArr X.drew (Lt X.drew.heap.size) x.A x.c x.R from HRX.out)
          refine wpAnyH_ready (rs := [1]) (by kernel_rfl) (by simp) ?_
          refine AllReadyH.cons rfl (fun K hK => ?_) AllReadyH.nil
          go_simp
          go_at_call 10
          refine (CK1 x.s x.A x.c x.R x.f _ ra1 HWX.out).mono ?_
          rintro e M1 ⟨rfl, bM1⟩
          have zx : xb < X.drew.heap.size := zx
          go_wp2_with fail
          refine hK.out _ _ ⟨(bM1.cell (p := ⟨_, 0, none⟩) zx).trans hHeld.1, (bM1.cell (p := ⟨_, 1, none⟩) zx).trans hHeld.2.1, (bM1.cell (p := ⟨_, 2, none⟩) zx).trans hHeld.2.2⟩ (fun hHeld2 => ?_)
          clear hK K hHeld
          have hHeld := hHeld2
          clear hHeld2
          try simp only [Act.put, List.setIfInBounds_toArray, List.set_cons_zero, List.set_cons_succ, List.getElem_toArray, List.getElem_cons_zero, List.getElem_cons_succ]
          have zx : xb < M1.heap.size := Nat.lt_of_lt_of_le zx bM1.size
          have ra2 := ra1.next bM1
          refine wpAnyH_ready (rs := [3]) (by kernel_rfl) (by simp) ?_
          refine AllReadyH.cons rfl (fun K hK => ?_) AllReadyH.nil
          go_simp
          go_at_call 11
          refine (CK2 x.s x.A x.c x.R x.f _ ra2 HWX.out HSX.out).mono ?_
          rintro e M2 ⟨rfl, bM2⟩
          have zx : xb < M1.heap.size := zx
          go_wp2_with fail
          refine hK.out _ _ ⟨(bM2.cell (p := ⟨_, 0, none⟩) zx).trans hHeld.1, (bM2.cell (p := ⟨_, 1, none⟩) zx).trans hHeld.2.1, (bM2.cell (p := ⟨_, 2, none⟩) zx).trans hHeld.2.2⟩ (fun hHeld2 => ?_)
          clear hK K hHeld
          have hHeld := hHeld2
          clear hHeld2
          try simp only [Act.put, List.setIfInBounds_toArray, List.set_cons_zero, List.set_cons_succ, List.getElem_toArray, List.getElem_cons_zero, List.getElem_cons_succ]
          have zx : xb < M2.heap.size := Nat.lt_of_lt_of_le zx bM2.size
          (refine wpAnyH_take (i := 4) (v := ?_) rfl (by kernel_rfl) (by kernel_rfl) (by kernel_rfl) (fun _ _ _ h => h) (Or.inl ⟨by rfl, ?_⟩) (by assumption) ?_; rotate_left 1; (focus (intro w' hSw; (try dsimp only at hSw); go_simp; (try with_reducible rfl); done)); try simp only [Act.put, List.setIfInBounds_toArray, List.set_cons_zero, List.set_cons_succ, List.getElem_toArray, List.getElem_cons_zero, List.getElem_cons_succ])
          (refine wpAnyH_take (i := 5) (v := ?_) rfl (by kernel_rfl) (by kernel_rfl) (by kernel_rfl) (fun _ _ _ h => h) (Or.inl ⟨by rfl, ?_⟩) (by assumption) ?_; rotate_left 1; (focus (intro w' hSw; (try dsimp only at hSw); go_simp; (try with_reducible rfl); done)); try simp only [Act.put, List.setIfInBounds_toArray, List.set_cons_zero, List.set_cons_succ, List.getElem_toArray, List.getElem_cons_zero, List.getElem_cons_succ])
          (refine wpAnyH_take (i := 6) (v := ?_) rfl (by kernel_rfl) (by kernel_rfl) (by kernel_rfl) (fun _ _ _ h => h) (Or.inl ⟨by rfl, ?_⟩) (by assumption) ?_; rotate_left 1; (focus (intro w' hSw; (try dsimp only at hSw); go_simp; (try with_reducible rfl); done)); try simp only [Act.put, List.setIfInBounds_toArray, List.set_cons_zero, List.set_cons_succ, List.getElem_toArray, List.getElem_cons_zero, List.getElem_cons_succ])
          (refine wpAnyH_take (i := 8) (v := ?_) rfl (by kernel_rfl) (by kernel_rfl) (by kernel_rfl) (fun _ _ _ h => h) (Or.inl ⟨by rfl, ?_⟩) (by assumption) ?_; rotate_left 1; (focus (intro w' hSw; (try dsimp only at hSw); go_simp; (try with_reducible rfl); done)); try simp only [Act.put, List.setIfInBounds_toArray, List.set_cons_zero, List.set_cons_succ, List.getElem_toArray, List.getElem_cons_zero, List.getElem_cons_succ])
          have ra3 := ra2.next bM2
          refine wpAnyH_ready (rs := [7]) (by kernel_rfl) (by simp) ?_
          refine AllReadyH.cons rfl (fun K hK => ?_) AllReadyH.nil
          go_simp
          go_at_call 12
          refine (CK3 x.s x.A x.c x.R x.f _ ra3 HWX.out).mono ?_
          rintro e M3 ⟨rfl, bM3⟩
          have zx : xb < M2.heap.size := zx
          go_wp2_with fail
          refine hK.out _ _ ⟨(bM3.cell (p := ⟨_, 0, none⟩) zx).trans hHeld.1, (bM3.cell (p := ⟨_, 1, none⟩) zx).trans hHeld.2.1, (bM3.cell (p := ⟨_, 2, none⟩) zx).trans hHeld.2.2⟩ (fun hHeld2 => ?_)
          clear hK K hHeld
          have hHeld := hHeld2
          clear hHeld2
          try simp only [Act.put, List.setIfInBounds_toArray, List.set_cons_zero, List.set_cons_succ, List.getElem_toArray, List.getElem_cons_zero, List.getElem_cons_succ]
          have zx : xb < M3.heap.size := Nat.lt_of_lt_of_le zx bM3.size
          have ra4 := ra3.next bM3
          refine wpAnyH_ready (rs := [9]) (by kernel_rfl) (by simp) ?_
          refine AllReadyH.cons rfl (fun K hK => ?_) AllReadyH.nil
          go_simp
          go_at_call 13
          refine (CK4 x.s x.A x.c x.R x.f _ ra4 HWX.out HSX.out).mono ?_
          rintro e M4 ⟨rfl, bM4⟩
          have zx : xb < M3.heap.size := zx
          go_wp2_with fail
          refine hK.out _ _ ⟨(bM4.cell (p := ⟨_, 0, none⟩) zx).trans hHeld.1, (bM4.cell (p := ⟨_, 1, none⟩) zx).trans hHeld.2.1, (bM4.cell (p := ⟨_, 2, none⟩) zx).trans hHeld.2.2⟩ (fun hHeld2 => ?_)
          clear hK K hHeld
          have hHeld := hHeld2
          clear hHeld2
          try simp only [Act.put, List.setIfInBounds_toArray, List.set_cons_zero, List.set_cons_succ, List.getElem_toArray, List.getElem_cons_zero, List.getElem_cons_succ]
          have zx : xb < M4.heap.size := Nat.lt_of_lt_of_le zx bM4.size
          (refine wpAnyH_take (i := 10) (v := ?_) rfl (by kernel_rfl) (by kernel_rfl) (by kernel_rfl) (fun _ _ _ h => h) (Or.inl ⟨by rfl, ?_⟩) (by assumption) ?_; rotate_left 1; (focus (intro w' hSw; (try dsimp only at hSw); go_simp; (try with_reducible rfl); done)); try simp only [Act.put, List.setIfInBounds_toArray, List.set_cons_zero, List.set_cons_succ, List.getElem_toArray, List.getElem_cons_zero, List.getElem_cons_succ])
          (refine wpAnyH_take (i := 11) (v := ?_) rfl (by kernel_rfl) (by kernel_rfl) (by kernel_rfl) (fun _ _ _ h => h) (Or.inl ⟨by rfl, ?_⟩) (by assumption) ?_; rotate_left 1; (focus (intro w' hSw; (try dsimp only at hSw); go_simp; (try with_reducible rfl); done)); try simp only [Act.put, List.setIfInBounds_toArray, List.set_cons_zero, List.set_cons_succ, List.getElem_toArray, List.getElem_cons_zero, List.getElem_cons_succ])
          refine wpAnyH_done (by kernel_rfl) ?_ _
          clear hHeld
          have hX1 : Below X.heap.size X M1 := (Below.refl X.heap.size X).drew.trans (show Below X.heap.size X.drew M1 from bM1)
          have hX2 := below_step hX1 hX1.size bM2
          have hX3 := below_step hX2 hX2.size bM3
          have hX4 := below_step hX3 hX3.size bM4
          have HR4 := Lib.hid (HRX.out.next hX4)
          have HB4 := Lib.hid (below_step HBX.out HBX.out.size hX4)
          have x0' := (hX4.cell (p := ⟨xb, 0, none⟩) zxX).trans x0
          have x1' := (hX4.cell (p := ⟨xb, 1, none⟩) zxX).trans x1
          have x2' := (hX4.cell (p := ⟨xb, 2, none⟩) zxX).trans x2
          have z4 : xb < M4.heap.size := zx
          have e5 := Int.emod_nonneg a5 (show (6 : Int) ≠ 0 by decide)
          have e5' := Int.emod_lt_of_pos a5 (show (0 : Int) < 6 by decide)
          have e6 := Int.emod_nonneg a6 (show (67 : Int) ≠ 0 by decide)
          have e6' := Int.emod_lt_of_pos a6 (show (0 : Int) < 67 by decide)
          have md5 := fun W => mod_any a5 6 (by decide) (by decide) l5 u5 W
          have md6 := fun W => mod_any a6 67 (by decide) (by decide) l6 u6 W
          obtain ⟨m5, hm5⟩ : ∃ m, m = a5 % 6 := ⟨_, rfl⟩
          obtain ⟨m6, hm6⟩ : ∃ m, m = a6 % 67 := ⟨_, rfl⟩
          rw [← hm5] at md5 e5 e5'
          rw [← hm6] at md6 e6 e6'
          have w5 : IntKind.i64.wrap (m5 - 1) = m5 - 1 := IntWalk.i64_in _ (by omega)
          have w6 : IntKind.i64.wrap (m6 - 1) = m6 - 1 := IntWalk.i64_in _ (by omega)
          clear bM1 bM2 bM3 bM4 hX1 hX2 hX3 hX4 x0 x1 x2 k0 k1 k2 HRX HBX HXX HXB hm5 hm6 zx zxX HBR
          try clear ra1 ra2 ra3 ra4
          go_wp2_with fail
          refine (md5 _).mono ?_
          rintro e w' ⟨rfl, rfl⟩
          clear md5
          go_wp2_with fail
          refine (md6 _).mono ?_
          rintro e w' ⟨rfl, rfl⟩
          clear md6
          go_wp2_with fail
          obtain ⟨P, hP⟩ : ∃ P, P = ((M4.alloc (.cells #[.int .i64 a5, .int .i64 a6] 3)).alloc (.cells #[.int .i64 (m5 - 1), .int .i64 (m6 - 1)] 3)).alloc (.cells #[.slice (some ⟨M4.heap.size, 0, none⟩) 2 2, .slice (some ⟨M4.heap.size + 1, 0, none⟩) 2 2] 25) := ⟨_, rfl⟩
          have hbP : Below M4.heap.size M4 P := by rw [hP]; exact below_third _ _ _ _
          have BP : Blk P (M4.heap.size + 1 + 1) 25 #[.slice (some ⟨M4.heap.size, 0, none⟩) 2 2, .slice (some ⟨M4.heap.size + 1, 0, none⟩) 2 2] := by rw [hP]; exact heap_third _ _ _ _
          have BP0 : Blk P M4.heap.size 3 #[.int .i64 a5, .int .i64 a6] := by
            rw [hP]
            exact ((Blk.new M4 _ _).alloc _).alloc _
          have BP1 : Blk P (M4.heap.size + 1) 3 #[.int .i64 (m5 - 1), .int .i64 (m6 - 1)] := by
            rw [hP]
            refine Blk.alloc ?_ _
            have h := Blk.new (M4.alloc (.cells #[.int .i64 a5, .int .i64 a6] 3)) 3 #[.int .i64 (m5 - 1), .int .i64 (m6 - 1)]
            have e : (M4.alloc (.cells #[.int .i64 a5, .int .i64 a6] 3)).heap.size = M4.heap.size + 1 := by simp
            rw [e] at h
            exact h
          have HPR : Hid (∀ k, k < 2 → ∃ (g : Nat) (bb nn : Int), P.cell? ⟨M4.heap.size + 1 + 1, k, none⟩ = some (.slice (some ⟨g, 0, none⟩) 2 2) ∧ P.cell? ⟨g, 0, none⟩ = some (.int .i64 bb) ∧ P.cell? ⟨g, 1, none⟩ = some (.int .i64 nn) ∧ g < P.heap.size) := Lib.hid fun k hk => by
            rcases (by omega : k = 0 ∨ k = 1) with rfl | rfl
            · exact ⟨M4.heap.size, a5, a6, BP.cell 0, BP0.cell 0, BP0.cell 1, BP0.lt⟩
            · exact ⟨M4.heap.size + 1, m5 - 1, m6 - 1, BP.cell 1, BP1.cell 0, BP1.cell 1, BP1.lt⟩
          have zp : M4.heap.size + 1 + 1 < P.heap.size := BP.lt
          have HBP := Lib.hid (below_step HB4.out HB4.out.size hbP)
          have HRP := Lib.hid (HR4.out.next hbP)
          have xp0 := (hbP.cell (p := ⟨xb, 0, none⟩) z4).trans x0'
          have xp1 := (hbP.cell (p := ⟨xb, 1, none⟩) z4).trans x1'
          have xp2 := (hbP.cell (p := ⟨xb, 2, none⟩) z4).trans x2'
          have zxp : xb < P.heap.size := Nat.lt_of_lt_of_le z4 hbP.size
          have HPP := Lib.hid hP
          obtain ⟨pg, hpg⟩ : ∃ b, b = M4.heap.size + 1 + 1 := ⟨_, rfl⟩
          have HPG := Lib.hid hpg
          rw [← hpg] at HPR zp
          rw [← HPP.out, ← HPG.out]
          have XP0 := Lib.hid xp0
          have XP1 := Lib.hid xp1
          have XP2 := Lib.hid xp2
          clear hP hbP BP BP0 BP1 x0' x1' x2' HR4 HB4 z4 hpg HPP HPG xp0 xp1 xp2 e5 e5' e6 e6' w5 w6
          go_loopw [84] (fun i wr => ∃ k : Nat, k ≤ 2 ∧ i = .int .i64 k ∧ Below P.heap.size P wr) (fun i _ => 2 - (intOf i).toNat)
          case atStart => exact ⟨0, by omega, rfl, Below.refl _ _⟩
          case round =>
            obtain ⟨k, hk, rfl, hbr⟩ := hrel
            have HBR := Lib.hid hbr
            by_cases hkt : k < 2
            · have hkt2 : 0 ≤ (k : Int) ∧ (k : Int) < 2 := by omega
              obtain ⟨g, bb, nn, g0, g1, g2, zg0⟩ := HPR.out k hkt
              have y5 := (hbr.cell (p := ⟨pg, k, none⟩) zp).trans g0
              have y3 := (hbr.cell (p := ⟨g, 0, none⟩) zg0).trans g1
              have y4 := (hbr.cell (p := ⟨g, 1, none⟩) zg0).trans g2
              have y0 := (hbr.cell (p := ⟨xb, 0, none⟩) zxp).trans XP0.out
              have y1 := (hbr.cell (p := ⟨xb, 1, none⟩) zxp).trans XP1.out
              have y2 := (hbr.cell (p := ⟨xb, 2, none⟩) zxp).trans XP2.out
              have HRQ := Lib.hid (HRP.out.next hbr)
              have zx : xb < wr.heap.size := Nat.lt_of_lt_of_le zxp hbr.size
              have zg : g < wr.heap.size := Nat.lt_of_lt_of_le zg0 hbr.size
              clear hbr g0 g1 g2 zg0
              go_upto_region 12 with fail
              clear y5
              have zx : xb < wr.drew.heap.size := zx
              have zg : g < wr.drew.heap.size := zg
              refine wp_region_held_drew (S := (fun w' => w'.cell? ⟨xb, 0, none⟩ = some (.string x.s) ∧ w'.cell? ⟨xb, 1, none⟩ = some (.slice x.A x.R.length x.c) ∧ w'.cell? ⟨xb, 2, none⟩ = some (.int .i64 x.f) ∧ w'.cell? ⟨g, 0, none⟩ = some (.int .i64 bb) ∧ w'.cell? ⟨g, 1, none⟩ = some (.int .i64 nn))) (by kernel_rfl) ?_ (fun hHeld => ?_)
              · exact ⟨y0, y1, y2, y3, y4⟩
              (refine wpAnyH_take (i := 0) (v := ?_) rfl (by kernel_rfl) (by kernel_rfl) (by kernel_rfl) (fun _ _ _ h => h) (Or.inl ⟨by rfl, ?_⟩) (by assumption) ?_; rotate_left 1; (focus (intro w' hSw; (try dsimp only at hSw); go_simp; (try with_reducible rfl); done)); try simp only [Act.put, List.setIfInBounds_toArray, List.set_cons_zero, List.set_cons_succ, List.getElem_toArray, List.getElem_cons_zero])
              (refine wpAnyH_take (i := 1) (v := ?_) rfl (by kernel_rfl) (by kernel_rfl) (by kernel_rfl) (fun _ _ _ h => h) (Or.inl ⟨by rfl, ?_⟩) (by assumption) ?_; rotate_left 1; (focus (intro w' hSw; (try dsimp only at hSw); go_simp; (try with_reducible rfl); done)); try simp only [Act.put, List.setIfInBounds_toArray, List.set_cons_zero, List.set_cons_succ, List.getElem_toArray, List.getElem_cons_zero, List.getElem_cons_succ])
              (refine wpAnyH_take (i := 2) (v := ?_) rfl (by kernel_rfl) (by kernel_rfl) (by kernel_rfl) (fun _ _ _ h => h) (Or.inl ⟨by rfl, ?_⟩) (by assumption) ?_; rotate_left 1; (focus (intro w' hSw; (try dsimp only at hSw); go_simp; (try with_reducible rfl); done)); try simp only [Act.put, List.setIfInBounds_toArray, List.set_cons_zero, List.set_cons_succ, List.getElem_toArray, List.getElem_cons_zero, List.getElem_cons_succ])
              (refine wpAnyH_take (i := 3) (v := ?_) rfl (by kernel_rfl) (by kernel_rfl) (by kernel_rfl) (fun _ _ _ h => h) (Or.inl ⟨by rfl, ?_⟩) (by assumption) ?_; rotate_left 1; (focus (intro w' hSw; (try dsimp only at hSw); go_simp; (try with_reducible rfl); done)); try simp only [Act.put, List.setIfInBounds_toArray, List.set_cons_zero, List.set_cons_succ, List.getElem_toArray, List.getElem_cons_zero, List.getElem_cons_succ])
              (refine wpAnyH_take (i := 4) (v := ?_) rfl (by kernel_rfl) (by kernel_rfl) (by kernel_rfl) (fun _ _ _ h => h) (Or.inl ⟨by rfl, ?_⟩) (by assumption) ?_; rotate_left 1; (focus (intro w' hSw; (try dsimp only at hSw); go_simp; (try with_reducible rfl); done)); try simp only [Act.put, List.setIfInBounds_toArray, List.set_cons_zero, List.set_cons_succ, List.getElem_toArray, List.getElem_cons_zero, List.getElem_cons_succ])
              (refine wpAnyH_take (i := 5) (v := ?_) rfl (by kernel_rfl) (by kernel_rfl) (by kernel_rfl) (fun _ _ _ h => h) (Or.inl ⟨by rfl, ?_⟩) (by assumption) ?_; rotate_left 1; (focus (intro w' hSw; (try dsimp only at hSw); go_simp; (try with_reducible rfl); done)); try simp only [Act.put, List.setIfInBounds_toArray, List.set_cons_zero, List.set_cons_succ, List.getElem_toArray, List.getElem_cons_zero, List.getElem_cons_succ])
              (refine wpAnyH_take (i := 6) (v := ?_) rfl (by kernel_rfl) (by kernel_rfl) (by kernel_rfl) (fun _ _ _ h => h) (Or.inl ⟨by rfl, ?_⟩) (by assumption) ?_; rotate_left 1; (focus (intro w' hSw; (try dsimp only at hSw); go_simp; (try with_reducible rfl); done)); try simp only [Act.put, List.setIfInBounds_toArray, List.set_cons_zero, List.set_cons_succ, List.getElem_toArray, List.getElem_cons_zero, List.getElem_cons_succ])
              refine wpAnyH_ready (rs := [7]) (by kernel_rfl) (by simp) ?_
              refine AllReadyH.cons rfl (fun K hK => ?_) AllReadyH.nil
              go_simp
              go_at_call 15
              refine (CP1 x.s x.A x.c x.R x.f bb nn _ (show RArr wr.drew (Lt wr.drew.heap.size) x.A x.c x.R from HRQ.out) HWX.out).mono ?_
              rintro e Q1 ⟨rfl, bQ1⟩
              go_wp2_with fail
              refine hK.out _ _ ⟨(bQ1.cell (p := ⟨_, 0, none⟩) zx).trans hHeld.1, (bQ1.cell (p := ⟨_, 1, none⟩) zx).trans hHeld.2.1, (bQ1.cell (p := ⟨_, 2, none⟩) zx).trans hHeld.2.2.1, (bQ1.cell (p := ⟨_, 0, none⟩) zg).trans hHeld.2.2.2.1, (bQ1.cell (p := ⟨_, 1, none⟩) zg).trans hHeld.2.2.2.2⟩ (fun hHeld2 => ?_)
              clear hK K hHeld
              have hHeld := hHeld2
              clear hHeld2
              try simp only [Act.put, List.setIfInBounds_toArray, List.set_cons_zero, List.set_cons_succ, List.getElem_toArray, List.getElem_cons_zero, List.getElem_cons_succ]
              have zx : xb < Q1.heap.size := Nat.lt_of_lt_of_le zx bQ1.size
              have zg : g < Q1.heap.size := Nat.lt_of_lt_of_le zg bQ1.size
              (refine wpAnyH_take (i := 8) (v := ?_) rfl (by kernel_rfl) (by kernel_rfl) (by kernel_rfl) (fun _ _ _ h => h) (Or.inl ⟨by rfl, ?_⟩) (by assumption) ?_; rotate_left 1; (focus (intro w' hSw; (try dsimp only at hSw); go_simp; (try with_reducible rfl); done)); try simp only [Act.put, List.setIfInBounds_toArray, List.set_cons_zero, List.set_cons_succ, List.getElem_toArray, List.getElem_cons_zero, List.getElem_cons_succ])
              (refine wpAnyH_take (i := 9) (v := ?_) rfl (by kernel_rfl) (by kernel_rfl) (by kernel_rfl) (fun _ _ _ h => h) (Or.inl ⟨by rfl, ?_⟩) (by assumption) ?_; rotate_left 1; (focus (intro w' hSw; (try dsimp only at hSw); go_simp; (try with_reducible rfl); done)); try simp only [Act.put, List.setIfInBounds_toArray, List.set_cons_zero, List.set_cons_succ, List.getElem_toArray, List.getElem_cons_zero, List.getElem_cons_succ])
              (refine wpAnyH_take (i := 10) (v := ?_) rfl (by kernel_rfl) (by kernel_rfl) (by kernel_rfl) (fun _ _ _ h => h) (Or.inl ⟨by rfl, ?_⟩) (by assumption) ?_; rotate_left 1; (focus (intro w' hSw; (try dsimp only at hSw); go_simp; (try with_reducible rfl); done)); try simp only [Act.put, List.setIfInBounds_toArray, List.set_cons_zero, List.set_cons_succ, List.getElem_toArray, List.getElem_cons_zero, List.getElem_cons_succ])
              (refine wpAnyH_take (i := 11) (v := ?_) rfl (by kernel_rfl) (by kernel_rfl) (by kernel_rfl) (fun _ _ _ h => h) (Or.inl ⟨by rfl, ?_⟩) (by assumption) ?_; rotate_left 1; (focus (intro w' hSw; (try dsimp only at hSw); go_simp; (try with_reducible rfl); done)); try simp only [Act.put, List.setIfInBounds_toArray, List.set_cons_zero, List.set_cons_succ, List.getElem_toArray, List.getElem_cons_zero, List.getElem_cons_succ])
              (refine wpAnyH_take (i := 12) (v := ?_) rfl (by kernel_rfl) (by kernel_rfl) (by kernel_rfl) (fun _ _ _ h => h) (Or.inl ⟨by rfl, ?_⟩) (by assumption) ?_; rotate_left 1; (focus (intro w' hSw; (try dsimp only at hSw); go_simp; (try with_reducible rfl); done)); try simp only [Act.put, List.setIfInBounds_toArray, List.set_cons_zero, List.set_cons_succ, List.getElem_toArray, List.getElem_cons_zero, List.getElem_cons_succ])
              have hH := hHeld
              refine wpAnyH_done (by kernel_rfl) ?_ _
              clear hHeld
              have HQ1 := Lib.hid (below_step HBR.out HBR.out.size ((Below.refl wr.heap.size wr).drew.trans (show Below wr.heap.size wr.drew Q1 from bQ1)))
              have raq : RArr Q1 (Lt Q1.heap.size) x.A x.c x.R := (show RArr wr.drew (Lt wr.drew.heap.size) x.A x.c x.R from HRQ.out).next bQ1
              clear y0 y1 y2 y3 y4
              go_upto_region 13 with fail
              have zx : xb < Q1.drew.heap.size := zx
              have zg : g < Q1.drew.heap.size := zg
              refine wp_region_held_drew (S := (fun w' => w'.cell? ⟨xb, 0, none⟩ = some (.string x.s) ∧ w'.cell? ⟨xb, 1, none⟩ = some (.slice x.A x.R.length x.c) ∧ w'.cell? ⟨xb, 2, none⟩ = some (.int .i64 x.f) ∧ w'.cell? ⟨g, 0, none⟩ = some (.int .i64 bb) ∧ w'.cell? ⟨g, 1, none⟩ = some (.int .i64 nn))) (by kernel_rfl) ?_ (fun hHeld => ?_)
              · exact hH
              (refine wpAnyH_take (i := 0) (v := ?_) rfl (by kernel_rfl) (by kernel_rfl) (by kernel_rfl) (fun _ _ _ h => h) (Or.inl ⟨by rfl, ?_⟩) (by assumption) ?_; rotate_left 1; (focus (intro w' hSw; (try dsimp only at hSw); go_simp; (try with_reducible rfl); done)); try simp only [Act.put, List.setIfInBounds_toArray, List.set_cons_zero, List.set_cons_succ, List.getElem_toArray, List.getElem_cons_zero])
              (refine wpAnyH_take (i := 1) (v := ?_) rfl (by kernel_rfl) (by kernel_rfl) (by kernel_rfl) (fun _ _ _ h => h) (Or.inl ⟨by rfl, ?_⟩) (by assumption) ?_; rotate_left 1; (focus (intro w' hSw; (try dsimp only at hSw); go_simp; (try with_reducible rfl); done)); try simp only [Act.put, List.setIfInBounds_toArray, List.set_cons_zero, List.set_cons_succ, List.getElem_toArray, List.getElem_cons_zero, List.getElem_cons_succ])
              (refine wpAnyH_take (i := 2) (v := ?_) rfl (by kernel_rfl) (by kernel_rfl) (by kernel_rfl) (fun _ _ _ h => h) (Or.inl ⟨by rfl, ?_⟩) (by assumption) ?_; rotate_left 1; (focus (intro w' hSw; (try dsimp only at hSw); go_simp; (try with_reducible rfl); done)); try simp only [Act.put, List.setIfInBounds_toArray, List.set_cons_zero, List.set_cons_succ, List.getElem_toArray, List.getElem_cons_zero, List.getElem_cons_succ])
              (refine wpAnyH_take (i := 3) (v := ?_) rfl (by kernel_rfl) (by kernel_rfl) (by kernel_rfl) (fun _ _ _ h => h) (Or.inl ⟨by rfl, ?_⟩) (by assumption) ?_; rotate_left 1; (focus (intro w' hSw; (try dsimp only at hSw); go_simp; (try with_reducible rfl); done)); try simp only [Act.put, List.setIfInBounds_toArray, List.set_cons_zero, List.set_cons_succ, List.getElem_toArray, List.getElem_cons_zero, List.getElem_cons_succ])
              (refine wpAnyH_take (i := 4) (v := ?_) rfl (by kernel_rfl) (by kernel_rfl) (by kernel_rfl) (fun _ _ _ h => h) (Or.inl ⟨by rfl, ?_⟩) (by assumption) ?_; rotate_left 1; (focus (intro w' hSw; (try dsimp only at hSw); go_simp; (try with_reducible rfl); done)); try simp only [Act.put, List.setIfInBounds_toArray, List.set_cons_zero, List.set_cons_succ, List.getElem_toArray, List.getElem_cons_zero, List.getElem_cons_succ])
              (refine wpAnyH_take (i := 5) (v := ?_) rfl (by kernel_rfl) (by kernel_rfl) (by kernel_rfl) (fun _ _ _ h => h) (Or.inl ⟨by rfl, ?_⟩) (by assumption) ?_; rotate_left 1; (focus (intro w' hSw; (try dsimp only at hSw); go_simp; (try with_reducible rfl); done)); try simp only [Act.put, List.setIfInBounds_toArray, List.set_cons_zero, List.set_cons_succ, List.getElem_toArray, List.getElem_cons_zero, List.getElem_cons_succ])
              (refine wpAnyH_take (i := 6) (v := ?_) rfl (by kernel_rfl) (by kernel_rfl) (by kernel_rfl) (fun _ _ _ h => h) (Or.inl ⟨by rfl, ?_⟩) (by assumption) ?_; rotate_left 1; (focus (intro w' hSw; (try dsimp only at hSw); go_simp; (try with_reducible rfl); done)); try simp only [Act.put, List.setIfInBounds_toArray, List.set_cons_zero, List.set_cons_succ, List.getElem_toArray, List.getElem_cons_zero, List.getElem_cons_succ])
              refine wpAnyH_ready (rs := [7]) (by kernel_rfl) (by simp) ?_
              refine AllReadyH.cons rfl (fun K hK => ?_) AllReadyH.nil
              go_simp
              go_at_call 16
              refine (CP2 x.s x.A x.c x.R x.f bb nn _ (show RArr Q1.drew (Lt Q1.drew.heap.size) x.A x.c x.R from raq) HWX.out HSX.out).mono ?_
              rintro e Q2 ⟨rfl, bQ2⟩
              go_wp2_with fail
              refine hK.out _ _ ⟨(bQ2.cell (p := ⟨_, 0, none⟩) zx).trans hHeld.1, (bQ2.cell (p := ⟨_, 1, none⟩) zx).trans hHeld.2.1, (bQ2.cell (p := ⟨_, 2, none⟩) zx).trans hHeld.2.2.1, (bQ2.cell (p := ⟨_, 0, none⟩) zg).trans hHeld.2.2.2.1, (bQ2.cell (p := ⟨_, 1, none⟩) zg).trans hHeld.2.2.2.2⟩ (fun hHeld2 => ?_)
              clear hK K hHeld
              have hHeld := hHeld2
              clear hHeld2
              try simp only [Act.put, List.setIfInBounds_toArray, List.set_cons_zero, List.set_cons_succ, List.getElem_toArray, List.getElem_cons_zero, List.getElem_cons_succ]
              have zx : xb < Q2.heap.size := Nat.lt_of_lt_of_le zx bQ2.size
              have zg : g < Q2.heap.size := Nat.lt_of_lt_of_le zg bQ2.size
              (refine wpAnyH_take (i := 8) (v := ?_) rfl (by kernel_rfl) (by kernel_rfl) (by kernel_rfl) (fun _ _ _ h => h) (Or.inl ⟨by rfl, ?_⟩) (by assumption) ?_; rotate_left 1; (focus (intro w' hSw; (try dsimp only at hSw); go_simp; (try with_reducible rfl); done)); try simp only [Act.put, List.setIfInBounds_toArray, List.set_cons_zero, List.set_cons_succ, List.getElem_toArray, List.getElem_cons_zero, List.getElem_cons_succ])
              (refine wpAnyH_take (i := 9) (v := ?_) rfl (by kernel_rfl) (by kernel_rfl) (by kernel_rfl) (fun _ _ _ h => h) (Or.inl ⟨by rfl, ?_⟩) (by assumption) ?_; rotate_left 1; (focus (intro w' hSw; (try dsimp only at hSw); go_simp; (try with_reducible rfl); done)); try simp only [Act.put, List.setIfInBounds_toArray, List.set_cons_zero, List.set_cons_succ, List.getElem_toArray, List.getElem_cons_zero, List.getElem_cons_succ])
              (refine wpAnyH_take (i := 10) (v := ?_) rfl (by kernel_rfl) (by kernel_rfl) (by kernel_rfl) (fun _ _ _ h => h) (Or.inl ⟨by rfl, ?_⟩) (by assumption) ?_; rotate_left 1; (focus (intro w' hSw; (try dsimp only at hSw); go_simp; (try with_reducible rfl); done)); try simp only [Act.put, List.setIfInBounds_toArray, List.set_cons_zero, List.set_cons_succ, List.getElem_toArray, List.getElem_cons_zero, List.getElem_cons_succ])
              (refine wpAnyH_take (i := 11) (v := ?_) rfl (by kernel_rfl) (by kernel_rfl) (by kernel_rfl) (fun _ _ _ h => h) (Or.inl ⟨by rfl, ?_⟩) (by assumption) ?_; rotate_left 1; (focus (intro w' hSw; (try dsimp only at hSw); go_simp; (try with_reducible rfl); done)); try simp only [Act.put, List.setIfInBounds_toArray, List.set_cons_zero, List.set_cons_succ, List.getElem_toArray, List.getElem_cons_zero, List.getElem_cons_succ])
              (refine wpAnyH_take (i := 12) (v := ?_) rfl (by kernel_rfl) (by kernel_rfl) (by kernel_rfl) (fun _ _ _ h => h) (Or.inl ⟨by rfl, ?_⟩) (by assumption) ?_; rotate_left 1; (focus (intro w' hSw; (try dsimp only at hSw); go_simp; (try with_reducible rfl); done)); try simp only [Act.put, List.setIfInBounds_toArray, List.set_cons_zero, List.set_cons_succ, List.getElem_toArray, List.getElem_cons_zero, List.getElem_cons_succ])
              have hH := hHeld
              refine wpAnyH_done (by kernel_rfl) ?_ _
              clear hHeld
              have HQ2 := Lib.hid (below_step HQ1.out HQ1.out.size ((Below.refl Q1.heap.size Q1).drew.trans (show Below Q1.heap.size Q1.drew Q2 from bQ2)))
              clear bQ1 bQ2 hH
              go_wp2_with fail
              exact ⟨⟨k + 1, by omega, by go_num, HQ2.out⟩, by simp [intOf]; omega⟩
            · have hkt2 : ¬ (k : Int) < 2 := by omega
              have HE := Lib.hid (below_step HBP.out HBP.out.size hbr)
              clear hbr
              go_wp2_with fail
              exact ⟨⟨j + 1, by omega, by go_num, HE.out⟩, by simp [intOf]; omega⟩
        · have hlt2 : ¬ (j : Int) < 4 := by omega
          have HBW := Lib.hid (below_step HBN.out HBN.out.size hbr)
          clear hbr
          go_wp2_with fail
          refine (aw _).mono ?_
          rintro e V3 ⟨rfl, hb3⟩
          have HB3 := Lib.hid (below_step HBW.out HBW.out.size hb3)
          clear aw hb3
          go_wp2
          go_ret
          exact ⟨rfl, HB3.out⟩
end Go.Proofs.Ytaeaneakpkkcnaa
