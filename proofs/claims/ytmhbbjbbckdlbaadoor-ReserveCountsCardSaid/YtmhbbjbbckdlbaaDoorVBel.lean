/-
  A configuration with belts for it in a space, as the statements' maker gives them.
-/
import Derived.Test.YtmhbbjbbckdlbaaDoorVQn
import Derived.Test.YtmhbbjbbckdlbaaDoorVRes
import Derived.Test.YtmhbbjbbckdlbaaDoorCPre
import Derived.Test.YtmhbbjbbckdlbaaDoorQAll
import Derived.Deep.RegionHeld3
namespace Go.Proofs.YtmhbbjbbckdlbaaDoor
open Go.RowKit
set_option maxRecDepth 100000
set_option linter.unusedVariables false

def tN : ByteArray := { data := #[116] }
def tRA : List Rl := [⟨4598175219545276416, 0, 0, 1⟩, ⟨4602678819172646912, 0, 1, 2⟩, ⟨0, 0, 0, 2⟩]
def tRB : List Rl := [⟨4598175219545276416, 0, 0, 1⟩, ⟨4602678819172646912, 0, 1, 2⟩, ⟨4598175219545276416, 0, 0, 2⟩]
theorem tA_ok : chk tN tRA 2 = 0 := by decide +kernel
theorem tB_ok : chk tN tRB 0 = 0 := by decide +kernel
theorem tA_wf : WfR tRA := fun j r h => by
  have := gt_lt h
  rcases (by simp [tRA] at this; omega : j = 0 ∨ j = 1 ∨ j = 2) with rfl | rfl | rfl <;> (simp [tRA] at h; subst h; decide)
theorem tB_wf : WfR tRB := fun j r h => by
  have := gt_lt h
  rcases (by simp [tRB] at this; omega : j = 0 ∨ j = 1 ∨ j = 2) with rfl | rfl | rfl <;> (simp [tRB] at h; subst h; decide)

/-- A configuration that may be read. -/
def CfgAt (w : World) (s : ByteArray) (A : Option Addr) (c : Nat) (R : List Rl) (f : Int) : Prop :=
  RArr w (Lt w.heap.size) A c R ∧ WfR R ∧ s.size ≤ 16 ∧ chk s R f = 0 ∧ 3 ≤ R.length ∧ R.length ≤ 4
theorem CfgAt.next {w w' : World} {s : ByteArray} {A : Option Addr} {c : Nat} {R : List Rl} {f : Int} (h : CfgAt w s A c R f) (hb : Below w.heap.size w w') : CfgAt w' s A c R f := ⟨h.1.next hb, h.2⟩
/-- A made space with its increments. -/
def SpcAt (w : World) (K m : Nat) (B : Option Addr) (d gb d' : Nat) (wd : Nat → Int) (F : Nat → Fr) (I : List IncR) : Prop :=
  3 ≤ K ∧ K ≤ 4 ∧ 2 ≤ m ∧ m ≤ 10 ∧ Arr w w.heap.size B (m * 2 ^ K) d wd ∧ Tab w w.heap.size (some ⟨gb, 0, none⟩) m d' F ∧ ValidO K (m * 2 ^ K) wd m F ∧ AllP F m K I ∧ AllR K wd F I ∧ ∀ f, f < m → (F f).ow = -1 ∨ OwnI I (F f).ow
theorem SpcAt.next {w w' : World} {K m : Nat} {B : Option Addr} {d gb d' : Nat} {wd : Nat → Int} {F : Nat → Fr} {I : List IncR} (h : SpcAt w K m B d gb d' wd F I) (hb : Below w.heap.size w w') : SpcAt w' K m B d gb d' wd F I := by
  obtain ⟨h1, h2, h3, h4, h5, h6, h7⟩ := h
  exact ⟨h1, h2, h3, h4, h5.next hb, h6.next hb, h7⟩
/-- What belts gives. -/
def BeltsOf (dk : Nat) (w : World) (e : Ending) (w' : World) : Prop :=
  ∃ (s : ByteArray) (A : Option Addr) (c : Nat) (R : List Rl) (f : Int) (K m : Nat) (B : Option Addr) (d gb d' : Nat) (wd : Nat → Int) (F : Nat → Fr) (I : List IncR) (QA : Option Addr) (QC : Nat),
    e = .returned (.tuple #[.agg #[.string s, .slice A R.length c, .int .i64 f], .agg #[.int .i64 K, .slice B (m * 2 ^ K) d, .slice (some ⟨gb, 0, none⟩) m d'], .slice QA R.length QC]) ∧
      CfgAt w' s A c R f ∧ SpcAt w' K m B d gb d' wd F I ∧ QArr w' (Lt w'.heap.size) QA QC (qN R.length I) ∧ w.grownBy w' (some dk)
/-- The configuration in its box, ahead of the space. -/
def CfgBox (dk : Nat) (w wx : World) (cb : Nat) : Prop :=
  ∃ (s : ByteArray) (A : Option Addr) (c : Nat) (R : List Rl) (f : Int), Blk wx cb 27 #[.string s, .slice A R.length c, .int .i64 f] ∧ (RArr wx (Rng (w.heap.size + 2) wx.heap.size) A c R ∧ WfR R ∧ s.size ≤ 16 ∧ chk s R f = 0 ∧ 3 ≤ R.length ∧ R.length ≤ 4) ∧ DeckP wx dk ∧ w.grownBy wx (some dk) ∧
    Blk wx w.heap.size 27 #[.string { data := #[] }, .slice none 0 0, .int .i64 0] ∧ Blk wx (w.heap.size + 1) 31 #[.int .i64 0, .slice none 0 0, .slice none 0 0] ∧ w.heap.size + 1 < cb

set_option maxHeartbeats 8000000 in
theorem belts_any (dk : Nat) (w : World) (hd : DeckP w dk) : Calls Tryd.prog 7 #[.pointer (some ⟨dk, 0, none⟩)] w (BeltsOf dk w) := by
  have hdl := hd.lt
  obtain ⟨U, hU⟩ : ∃ U, U = (w.alloc (.cells #[.string { data := #[] }, .slice none 0 0, .int .i64 0] 27)).alloc (.cells #[.int .i64 0, .slice none 0 0, .slice none 0 0] 31) := ⟨_, rfl⟩
  have Z1 : Blk U w.heap.size 27 #[.string { data := #[] }, .slice none 0 0, .int .i64 0] := by rw [hU]; exact (Blk.new _ _ _).alloc _
  have Z2 : Blk U (w.heap.size + 1) 31 #[.int .i64 0, .slice none 0 0, .slice none 0 0] := by rw [hU]; exact Blk.newAt _ _ _ _ (by simp)
  have hbu : Below w.heap.size w U := by rw [hU]; exact ((Below.refl _ _).alloc (Nat.le_refl _) _).alloc (by simp) _
  have HD := Lib.hid (hd.next hbu)
  have HGU := Lib.hid (show w.grownBy U (some dk) from turn_below hbu)
  have HU := Lib.hid hU
  have HZ1 := Lib.hid Z1
  have HZ2 := Lib.hid Z2
  have hus : U.heap.size = w.heap.size + 2 := by rw [hU]; simp
  clear hU Z1 Z2 hbu hd
  go_enter Tryd.func7, Tryd.ntmps7
  go_upto_region 1 with fail
  rw [← HU.out]
  go_wp2_with fail
  refine (cfgD_any dk U HD.out).mono ?_
  rintro e V ⟨⟨s, A, c, R, f, rfl, hr, hw, hs16, hk, hg⟩, hdv⟩
  obtain ⟨_, hR1, hR4, _⟩ := chk_ok hk
  have hsz := hg.size
  obtain ⟨CB, hCB⟩ : ∃ b, b = V.heap.size := ⟨_, rfl⟩
  have hcb : w.heap.size + 1 < CB := by omega
  obtain ⟨V2, hV2⟩ : ∃ W, W = V.alloc (.cells #[.string s, .slice A R.length c, .int .i64 f] 27) := ⟨_, rfl⟩
  have hb2 : Below V.heap.size V V2 := by rw [hV2]; exact (Below.refl _ _).alloc (Nat.le_refl _) _
  have HBC := Lib.hid (show Blk V2 CB 27 #[.string s, .slice A R.length c, .int .i64 f] by rw [hV2, hCB]; exact Blk.new _ _ _)
  have HRV := Lib.hid (show RArr V2 (Rng (w.heap.size + 2) V2.heap.size) A c R from RArr.mono (P := Rng U.heap.size V.heap.size) (hr.keep fun b o hb => hb2.cell hb.2) fun b hb => ⟨by have := hb.1; omega, Nat.lt_of_lt_of_le hb.2 hb2.size⟩)
  have HDV := Lib.hid (hdv.next hb2)
  have HGV := Lib.hid (turn_next (turn_trans HGU.out hg) hb2)
  have HY1 := Lib.hid ((HZ1.out.turn hg (by omega)).next hb2)
  have HY2 := Lib.hid ((HZ2.out.turn hg (by omega)).next hb2)
  have HVE := Lib.hid hV2
  have HCE := Lib.hid hCB
  have HK := Lib.hid hk
  have HW := Lib.hid hw
  have HS16 := Lib.hid hs16
  have p0 := HBC.out.cell 0
  have p1 := HBC.out.cell 1
  have p2 := HBC.out.cell 2
  simp at p0 p1 p2
  have l1 := HBC.out.lt
  clear hr hw hs16 hk hg hdv hV2 hCB hb2 HGU HZ1 HZ2 HD
  go_upto_region 2 with fail
  rw [← HVE.out, ← HCE.out]
  go_upto_if 13 with fail
  go_cut [] (fun wx => CfgBox dk w wx CB)
  case first =>
    by_cases hl3 : R.length < 3
    · skip
      obtain ⟨V3, hV3⟩ : ∃ W, W = ((V2.setCell ⟨CB, 0, none⟩ (.string { data := #[116] })).setCell ⟨CB, 1, none⟩ (.slice (some ⟨V2.heap.size, 0, none⟩) 3 3)).setCell ⟨CB, 2, none⟩ (.int .i64 2) := ⟨_, rfl⟩
      obtain ⟨RB, hRB⟩ : ∃ b, b = V2.heap.size := ⟨_, rfl⟩
      have hs3 : V3.heap.size = RB := by rw [hV3, hRB]; simp
      have hdc : dk < CB := by omega
      have hw3 : w.heap.size ≤ CB := by omega
      obtain ⟨V4, hV4⟩ : ∃ W, W = V3.alloc (.cells #[.float .f64 4598175219545276416, .int .i64 0, .int .i64 0, .int .i64 1, .float .f64 4602678819172646912, .int .i64 0, .int .i64 1, .int .i64 2, .float .f64 0, .int .i64 0, .int .i64 0, .int .i64 2] 63) := ⟨_, rfl⟩
      have hb4 : Below V3.heap.size V3 V4 := by rw [hV4]; exact (Below.refl _ _).alloc (Nat.le_refl _) _
      have hro : ROwn V4 RB (.slice (some ⟨RB, 0, none⟩) tRA.length tRA.length) tRA := by
        refine ROwn.of_block ?_ (Nat.le_refl _) (by decide)
        rw [hV4, ← hs3]
        exact heap_alloc_new V3 _
      have hcr : CB < RB := by rw [hRB]; exact l1
      have HB4 := Lib.hid (show Blk V4 CB 27 #[.string tN, .slice (some ⟨RB, 0, none⟩) 3 3, .int .i64 2] from Blk.next (by rw [hV3, hRB]; exact ((HBC.out.set_ 0 _).set_ 1 _).set_ 2 _) hb4)
      have HR4 := Lib.hid (show ROwn V4 RB (.slice (some ⟨RB, 0, none⟩) 3 3) tRA from hro)
      have HD4 := Lib.hid (show DeckP V4 dk from DeckP.next (by rw [hV3]; exact ((HDV.out.far (p := ⟨CB, 0, none⟩) hdc _).far (p := ⟨CB, 1, none⟩) hdc _).far (p := ⟨CB, 2, none⟩) hdc _) hb4)
      have HG4 := Lib.hid (show w.grownBy V4 (some dk) from turn_next (by rw [hV3]; exact turn_new (turn_new (turn_new HGV.out ⟨CB, 0, none⟩ hw3 _) ⟨CB, 1, none⟩ hw3 _) ⟨CB, 2, none⟩ hw3 _) hb4)
      have HY14 := Lib.hid (show Blk V4 w.heap.size 27 #[.string { data := #[] }, .slice none 0 0, .int .i64 0] from Blk.next (by rw [hV3]; exact HY1.out.far3 (by omega) _ _ _) hb4)
      have HY24 := Lib.hid (show Blk V4 (w.heap.size + 1) 31 #[.int .i64 0, .slice none 0 0, .slice none 0 0] from Blk.next (by rw [hV3]; exact HY2.out.far3 (by omega) _ _ _) hb4)
      have z0 := HBC.out.frozen 0
      have z1 := HBC.out.frozen 1
      have z2 := HBC.out.frozen 2
      have HV3 := Lib.hid hV3
      have HRB := Lib.hid hRB
      have HV4 := Lib.hid hV4
      clear hV3 hRB hV4 hro hb4
      go_upto_region 4 with fail
      rw [← HV3.out, ← HV4.out]
      clear z0 z1 z2 p0 p1 p2
      go_wp2_with fail
      refine (next_any dk 2 V4 (by decide) (by decide) HD4.out).mono ?_
      rintro e V5 ⟨u, rfl, u0, u1, hd5, hg5⟩
      have HB5 := Lib.hid (HB4.out.turn hg5 (by omega))
      have HR5 := Lib.hid (show ROwn V5 RB (.slice (some ⟨RB, 0, none⟩) 3 3) tRA from HR4.out.keep fun g h1 h2 => hg5.block g h2 (fun e => by injection e; omega))
      have HD5 := Lib.hid hd5
      have HG5 := Lib.hid (turn_trans HG4.out hg5)
      have HY15 := Lib.hid (HY14.out.turn hg5 (by omega))
      have HY25 := Lib.hid (HY24.out.turn hg5 (by omega))
      clear hd5 hg5
      cases hu : (u == 0) with
      | false =>
        go_wp2_with fail
        go_meet
        obtain ⟨A9, c9, e9, hra⟩ := HR5.out.slice
        injection e9 with e1 _ e2
        subst e1 e2
        exact ⟨tN, _, 3, tRA, 2, HB5.out, ⟨hra.mono fun b hb => ⟨by have := hb.1; omega, hb.2⟩, tA_wf, by decide, tA_ok, by decide, by decide⟩, HD5.out, HG5.out, HY15.out, HY25.out, hcb⟩
      | true =>
        obtain ⟨g9, cap9, e9, hg9, hgl9, hfz, d0, d1, d2, d3, hput⟩ := HR5.out.put (t := 2) (r := ⟨0, 0, 0, 2⟩) rfl
        injection e9 with e1 e8 e2
        injection e1 with e1
        injection e1 with e1
        subst e1 e2
        clear e8
        have hnew := hput ⟨4598175219545276416, 0, 0, 2⟩ 0 (.float .f64 4598175219545276416) (by decide) rfl
        have hst := stF
        have p1 := HB5.out.cell 1
        have p2 := HB5.out.cell 2
        have y0 := hfz (2 * 4)
        simp at p1 p2 d0 y0
        have l5 := HB5.out.lt
        have z2 := HB5.out.frozen 2
        have hne : CB ≠ RB := by omega
        have HNEW := Lib.hid hnew
        clear hnew hput
        go_wp2_with fail
        go_meet
        obtain ⟨A9, c9, e9, hra⟩ := HNEW.out.slice
        injection e9 with e1 e8 e2
        subst e1 e2
        have hrf := (hra.far (p := ⟨CB, 2, none⟩) (fun h => by have := h.1; show False; have h2 : RB ≤ CB := this; omega) (.int .i64 0)).mono (P' := Rng (w.heap.size + 2) ((V5.setCell ⟨RB, 8, none⟩ (.float .f64 4598175219545276416)).setCell ⟨CB, 2, none⟩ (.int .i64 0)).heap.size) fun b hb => ⟨by have := hb.1; omega, by have := hb.2; simpa using this⟩
        exact ⟨tN, _, 3, tRB, 0, (HB5.out.far (p := ⟨RB, 8, none⟩) hne _).set_ 2 _, ⟨hrf, tB_wf, by decide, tB_ok, by decide, by decide⟩, (HD5.out.far (p := ⟨RB, 8, none⟩) (by show dk < RB; omega) _).far (p := ⟨CB, 2, none⟩) hdc _, turn_new (turn_new HG5.out ⟨RB, 8, none⟩ (by show w.heap.size ≤ RB; omega) _) ⟨CB, 2, none⟩ hw3 _,
          (HY15.out.far (p := ⟨RB, 8, none⟩) (by show w.heap.size ≠ RB; omega) _).far (p := ⟨CB, 2, none⟩) (by show w.heap.size ≠ CB; omega) _, (HY25.out.far (p := ⟨RB, 8, none⟩) (by show w.heap.size + 1 ≠ RB; omega) _).far (p := ⟨CB, 2, none⟩) (by show w.heap.size + 1 ≠ CB; omega) _, hcb⟩
    · go_wp2_with fail
      go_meet
      exact ⟨s, A, c, R, f, HBC.out, ⟨HRV.out, HW.out, HS16.out, HK.out, by omega, hR4⟩, HDV.out, HGV.out, HY1.out, HY2.out, hcb⟩
  case rest =>
    obtain ⟨s, A, c, R, f, hB, hC, hD, hG, hz1, hz2, _⟩ := hcut
    have HBC2 := Lib.hid hB
    have HCF := Lib.hid hC
    have HD2 := Lib.hid hD
    have HG2 := Lib.hid hG
    have HW1 := Lib.hid hz1
    have HW2 := Lib.hid hz2
    have hlc := hB.lt
    clear hB hC hD hG hz1 hz2 HBC HRV HDV HGV HY1 HY2 HVE HCE HK HW HS16 p0 p1 p2 l1 hR1 hR4
    go_wp2_with fail
    refine (spaceY_any dk wc HD2.out).mono ?_
    rintro e V3 ⟨K, m, B, d, gb, d', wd, F, L, rfl, kk0, kk1, m0, m1, hoA, hoT, hvo, ⟨_, I, BI', hBI, hLR, hAll, hAllR, hcov⟩, hg⟩
    have hs3 := hg.size
    obtain ⟨mk, hmk⟩ : ∃ mk, mk = m * 2 ^ K := ⟨_, rfl⟩
    have HMK := Lib.hid hmk
    rw [← hmk] at hoA hvo ⊢
    obtain ⟨SB, hSB⟩ : ∃ b, b = V3.heap.size := ⟨_, rfl⟩
    obtain ⟨V4, hV4⟩ : ∃ W, W = V3.alloc (.cells #[.int .i64 K, .slice B mk d, .slice (some ⟨gb, 0, none⟩) m d'] 31) := ⟨_, rfl⟩
    have hb4 : Below V3.heap.size V3 V4 := by rw [hV4]; exact (Below.refl _ _).alloc (Nat.le_refl _) _
    have BS := Lib.hid (show Blk V4 SB 31 #[.int .i64 K, .slice B mk d, .slice (some ⟨gb, 0, none⟩) m d'] by rw [hV4, hSB]; exact Blk.new _ _ _)
    obtain ⟨LA, LC, hLe, hla⟩ := larr_of hLR.1
    subst hLe
    have HLA := Lib.hid (hla.lt.next hb4)
    have HSA := Lib.hid (hoA.below hb4)
    have HST := Lib.hid (hoT.below hb4)
    have hb4s : V3.heap.size ≤ V4.heap.size := hb4.size
    have hwcs : w.heap.size + 2 ≤ wc.heap.size := by omega
    have HVO := Lib.hid hvo
    have HALL := Lib.hid hAll
    have HALR := Lib.hid hAllR
    have HCOV := Lib.hid hcov
    have hI17 := allP_len hAll
    have HBC4 := Lib.hid ((HBC2.out.turn hg (by omega)).next hb4)
    have HG4 := Lib.hid (turn_next (turn_trans HG2.out hg) hb4)
    have HW14 := Lib.hid ((HW1.out.turn hg (by omega)).next hb4)
    have HW24 := Lib.hid ((HW2.out.turn hg (by omega)).next hb4)
    obtain ⟨hcr, hcw, hcs, hck, hc3, hc4⟩ := HCF.out
    have HCF4 := Lib.hid (show RArr V4 (Rng (w.heap.size + 2) V4.heap.size) A c R from RArr.mono (P := Rng (w.heap.size + 2) wc.heap.size) ((RArr.keep (w' := V3) hcr fun b o hb => World.cell?_of_block (hg.block b hb.2 (fun e => by injection e with e; have := hb.1; omega))).keep fun b o hb => hb4.cell (show b < V3.heap.size from Nat.lt_of_lt_of_le hb.2 hs3)) fun b hb => ⟨hb.1, Nat.lt_of_lt_of_le hb.2 (Nat.le_trans hs3 hb4.size)⟩)
    have HCW := Lib.hid hcw
    have HV4 := Lib.hid hV4
    have HSB := Lib.hid hSB
    have hcbs : CB < SB := by have := hlc; omega
    obtain ⟨li, hli⟩ : ∃ x, x = I.length := ⟨_, rfl⟩
    rw [← hli] at hI17 ⊢
    have HLI := Lib.hid hli
    clear hoA hoT hvo hLR hAll hAllR hcov hla hb4 hV4 hSB hmk hg hcr hcw hli HBC2 HCF HD2 HG2 HW1 HW2
    go_upto_region 7 with fail
    rw [← HSB.out, ← HV4.out]
    have p0 : V4.drew.cell? ⟨CB, 0, none⟩ = some (.string s) := HBC4.out.cell 0
    have p1 : V4.drew.cell? ⟨CB, 1, none⟩ = some (.slice A R.length c) := HBC4.out.cell 1
    have p2 : V4.drew.cell? ⟨CB, 2, none⟩ = some (.int .i64 f) := HBC4.out.cell 2
    have q0 : V4.drew.cell? ⟨SB, 0, none⟩ = some (.int .i64 K) := BS.out.cell 0
    have q1 : V4.drew.cell? ⟨SB, 1, none⟩ = some (.slice B mk d) := BS.out.cell 1
    have q2 : V4.drew.cell? ⟨SB, 2, none⟩ = some (.slice (some ⟨gb, 0, none⟩) m d') := BS.out.cell 2
    have l1 : CB < V4.drew.heap.size := HBC4.out.lt
    have l2 : SB < V4.drew.heap.size := BS.out.lt
    have hc : Below V4.drew.heap.size V4.drew V4.drew := Below.refl _ _
    have n1c : CB ≠ w.heap.size := by omega
    have n1s : SB ≠ w.heap.size := by omega
    have n2c : CB ≠ w.heap.size + 1 := by omega
    have n2s : SB ≠ w.heap.size + 1 := by omega
    have HLD := Lib.hid (show LArr V4.drew (Lt V4.drew.heap.size) LA LC I from HLA.out)
    go_region_held3 (fun w' => w'.cell? ⟨CB, 0, none⟩ = some (.string s) ∧ w'.cell? ⟨CB, 1, none⟩ = some (.slice A R.length c) ∧ w'.cell? ⟨CB, 2, none⟩ = some (.int .i64 f) ∧ w'.cell? ⟨SB, 0, none⟩ = some (.int .i64 K) ∧ w'.cell? ⟨SB, 1, none⟩ = some (.slice B mk d) ∧ w'.cell? ⟨SB, 2, none⟩ = some (.slice (some ⟨gb, 0, none⟩) m d'))
      (first | (with_reducible exact ⟨p0, p1, p2, q0, q1, q2⟩) | (with_reducible exact ⟨(hc.cell (p := ⟨CB, 0, none⟩) l1).trans p0, (hc.cell (p := ⟨CB, 1, none⟩) l1).trans p1, (hc.cell (p := ⟨CB, 2, none⟩) l1).trans p2, (hc.cell (p := ⟨SB, 0, none⟩) l2).trans q0, (hc.cell (p := ⟨SB, 1, none⟩) l2).trans q1, (hc.cell (p := ⟨SB, 2, none⟩) l2).trans q2⟩) | (with_reducible exact ⟨(cell_far3 n1c _ _ _).trans ((hc.cell (p := ⟨CB, 0, none⟩) l1).trans p0), (cell_far3 n1c _ _ _).trans ((hc.cell (p := ⟨CB, 1, none⟩) l1).trans p1), (cell_far3 n1c _ _ _).trans ((hc.cell (p := ⟨CB, 2, none⟩) l1).trans p2), (cell_far3 n1s _ _ _).trans ((hc.cell (p := ⟨SB, 0, none⟩) l2).trans q0), (cell_far3 n1s _ _ _).trans ((hc.cell (p := ⟨SB, 1, none⟩) l2).trans q1), (cell_far3 n1s _ _ _).trans ((hc.cell (p := ⟨SB, 2, none⟩) l2).trans q2)⟩) | (with_reducible exact ⟨(cell_far3 n2c _ _ _).trans ((hc.cell (p := ⟨CB, 0, none⟩) l1).trans p0), (cell_far3 n2c _ _ _).trans ((hc.cell (p := ⟨CB, 1, none⟩) l1).trans p1), (cell_far3 n2c _ _ _).trans ((hc.cell (p := ⟨CB, 2, none⟩) l1).trans p2), (cell_far3 n2s _ _ _).trans ((hc.cell (p := ⟨SB, 0, none⟩) l2).trans q0), (cell_far3 n2s _ _ _).trans ((hc.cell (p := ⟨SB, 1, none⟩) l2).trans q1), (cell_far3 n2s _ _ _).trans ((hc.cell (p := ⟨SB, 2, none⟩) l2).trans q2)⟩) | (with_reducible exact ⟨(cell_far3 n2c _ _ _).trans ((cell_far3 n1c _ _ _).trans ((hc.cell (p := ⟨CB, 0, none⟩) l1).trans p0)), (cell_far3 n2c _ _ _).trans ((cell_far3 n1c _ _ _).trans ((hc.cell (p := ⟨CB, 1, none⟩) l1).trans p1)), (cell_far3 n2c _ _ _).trans ((cell_far3 n1c _ _ _).trans ((hc.cell (p := ⟨CB, 2, none⟩) l1).trans p2)), (cell_far3 n2s _ _ _).trans ((cell_far3 n1s _ _ _).trans ((hc.cell (p := ⟨SB, 0, none⟩) l2).trans q0)), (cell_far3 n2s _ _ _).trans ((cell_far3 n1s _ _ _).trans ((hc.cell (p := ⟨SB, 1, none⟩) l2).trans q1)), (cell_far3 n2s _ _ _).trans ((cell_far3 n1s _ _ _).trans ((hc.cell (p := ⟨SB, 2, none⟩) l2).trans q2))⟩) | (with_reducible exact ⟨(cell_far3 n1c _ _ _).trans ((cell_far3 n2c _ _ _).trans ((hc.cell (p := ⟨CB, 0, none⟩) l1).trans p0)), (cell_far3 n1c _ _ _).trans ((cell_far3 n2c _ _ _).trans ((hc.cell (p := ⟨CB, 1, none⟩) l1).trans p1)), (cell_far3 n1c _ _ _).trans ((cell_far3 n2c _ _ _).trans ((hc.cell (p := ⟨CB, 2, none⟩) l1).trans p2)), (cell_far3 n1s _ _ _).trans ((cell_far3 n2s _ _ _).trans ((hc.cell (p := ⟨SB, 0, none⟩) l2).trans q0)), (cell_far3 n1s _ _ _).trans ((cell_far3 n2s _ _ _).trans ((hc.cell (p := ⟨SB, 1, none⟩) l2).trans q1)), (cell_far3 n1s _ _ _).trans ((cell_far3 n2s _ _ _).trans ((hc.cell (p := ⟨SB, 2, none⟩) l2).trans q2))⟩))
      (first
        | (go_at_call 28; rw [HLI.out]; refine (queueN_any R.length (by omega) (by omega) LA LC I _ HLD.out (fun i hi => by have := allP_belts HALL.out i hi; omega) (by have := HLI.out; omega)).mono ?_; rintro e wn ⟨v, rfl, hr, _, hb⟩; obtain ⟨QA, QC, rfl, hqa⟩ := hr.qarr; rw [qN_len]; replace hc : Below V4.drew.heap.size V4.drew wn := hb; have BW1 := Blk.next (show Blk V4.drew w.heap.size 27 #[.string { data := #[] }, .slice none 0 0, .int .i64 0] from HW14.out) hc; have BW2 := Blk.next (show Blk V4.drew (w.heap.size + 1) 31 #[.int .i64 0, .slice none 0 0, .slice none 0 0] from HW24.out) hc; have y0 := BW1.cell 0; have x0 := BW2.cell 0; have f0 := BW1.frozen 0; have g0 := BW2.frozen 0; have y1 := BW1.cell 1; have x1 := BW2.cell 1; have f1 := BW1.frozen 1; have g1 := BW2.frozen 1; have y2 := BW1.cell 2; have x2 := BW2.cell 2; have f2 := BW1.frozen 2; have g2 := BW2.frozen 2; simp at y0 y1 y2 x0 x1 x2))
    all_goals
      obtain ⟨Wf, hWf⟩ : ∃ W, W = (((((wn.setCell ⟨w.heap.size, 0, none⟩ (.string s)).setCell ⟨w.heap.size, 1, none⟩ (.slice A R.length c)).setCell ⟨w.heap.size, 2, none⟩ (.int .i64 f)).setCell ⟨w.heap.size + 1, 0, none⟩ (.int .i64 K)).setCell ⟨w.heap.size + 1, 1, none⟩ (.slice B mk d)).setCell ⟨w.heap.size + 1, 2, none⟩ (.slice (some ⟨gb, 0, none⟩) m d') := ⟨_, rfl⟩
      have hz1 : Blk Wf w.heap.size 27 #[.string s, .slice A R.length c, .int .i64 f] := by rw [hWf]; exact (((BW1.set_ 0 _).set_ 1 _).set_ 2 _).far3 (by omega) _ _ _
      have hz2 : Blk Wf (w.heap.size + 1) 31 #[.int .i64 K, .slice B mk d, .slice (some ⟨gb, 0, none⟩) m d'] := by rw [hWf]; exact (((BW2.far3 (by omega) _ _ _).set_ 0 _).set_ 1 _).set_ 2 _
      have hkeep : ∀ b o, w.heap.size + 2 ≤ b → Wf.cell? ⟨b, o, none⟩ = wn.cell? ⟨b, o, none⟩ := fun b o hb => by rw [hWf, cell_far3 (by omega), cell_far3 (by omega)]
      have hfs : Wf.heap.size = wn.heap.size := by rw [hWf]; simp
      have hgf : w.grownBy Wf (some dk) := by
        rw [hWf]
        exact turn_new (turn_new (turn_new (turn_new (turn_new (turn_new (turn_next (turn_drew HG4.out) hc) ⟨w.heap.size, 0, none⟩ (Nat.le_refl _) _) ⟨w.heap.size, 1, none⟩ (Nat.le_refl _) _) ⟨w.heap.size, 2, none⟩ (Nat.le_refl _) _) ⟨w.heap.size + 1, 0, none⟩ (Nat.le_succ _) _) ⟨w.heap.size + 1, 1, none⟩ (Nat.le_succ _) _) ⟨w.heap.size + 1, 2, none⟩ (Nat.le_succ _) _
      have hcr : RArr Wf (Lt Wf.heap.size) A c R := (RArr.keep (P := Rng (w.heap.size + 2) V4.heap.size) (RArr.keep (w' := wn) (show RArr V4.drew (Rng (w.heap.size + 2) V4.heap.size) A c R from HCF4.out) fun b o hb => hc.cell hb.2) fun b o hb => hkeep b o hb.1).lt
      have h4s : wc.heap.size ≤ V4.drew.heap.size := by show wc.heap.size ≤ V4.heap.size; have := l1; have := hb4s; omega
      have hoA : Own wn wc.heap.size B mk d wd := Own.below (show Own V4.drew _ _ _ _ _ from HSA.out) hc
      have hoT : OwnT wn wc.heap.size (some ⟨gb, 0, none⟩) m d' F := OwnT.below (show OwnT V4.drew _ _ _ _ _ from HST.out) hc
      have hoA2 : Arr Wf Wf.heap.size B mk d wd := by
        have h : Own Wf wc.heap.size B mk d wd := by
          rw [hWf]
          exact (((((hoA.far (p := ⟨w.heap.size, 0, none⟩) (by show w.heap.size < _; omega) _).far (p := ⟨w.heap.size, 1, none⟩) (by show w.heap.size < _; omega) _).far (p := ⟨w.heap.size, 2, none⟩) (by show w.heap.size < _; omega) _).far (p := ⟨w.heap.size + 1, 0, none⟩) (by show w.heap.size + 1 < _; omega) _).far (p := ⟨w.heap.size + 1, 1, none⟩) (by show w.heap.size + 1 < _; omega) _).far (p := ⟨w.heap.size + 1, 2, none⟩) (by show w.heap.size + 1 < _; omega) _
        exact h.arr
      have hoT2 : Tab Wf Wf.heap.size (some ⟨gb, 0, none⟩) m d' F := by
        have h : OwnT Wf wc.heap.size (some ⟨gb, 0, none⟩) m d' F := by
          rw [hWf]
          exact (((((hoT.far (p := ⟨w.heap.size, 0, none⟩) (by show w.heap.size < _; omega) _).far (p := ⟨w.heap.size, 1, none⟩) (by show w.heap.size < _; omega) _).far (p := ⟨w.heap.size, 2, none⟩) (by show w.heap.size < _; omega) _).far (p := ⟨w.heap.size + 1, 0, none⟩) (by show w.heap.size + 1 < _; omega) _).far (p := ⟨w.heap.size + 1, 1, none⟩) (by show w.heap.size + 1 < _; omega) _).far (p := ⟨w.heap.size + 1, 2, none⟩) (by show w.heap.size + 1 < _; omega) _
        exact h.tab
      have hq2 : QArr Wf (Lt Wf.heap.size) QA QC (qN R.length I) := (QArr.keep hqa fun b o hb => hkeep b o (by have := hb.1; have h5 : V4.drew.heap.size ≤ b := this; omega)).lt
      have v0 := hz1.cell 0
      have v1 := hz1.cell 1
      have v2 := hz1.cell 2
      have u0 := hz2.cell 0
      have u1 := hz2.cell 1
      have u2 := hz2.cell 2
      simp at v0 v1 v2 u0 u1 u2
      go_wp2
      rw [← hWf]
      rw [HMK.out] at hoA2 u1
      refine bodyPost_ret (v := .tuple #[.agg #[.string s, .slice A R.length c, .int .i64 f], .agg #[.int .i64 K, .slice B (m * 2 ^ K) d, .slice (some ⟨gb, 0, none⟩) m d'], .slice QA R.length QC]) (by simp [results, Tryd.results7, go_sem, v0, v1, v2, u0, u1, u2]) rfl
        ⟨s, A, c, R, f, K, m, B, d, gb, d', wd, F, I, QA, QC, rfl, ⟨hcr, HCW.out, hcs, hck, hc3, hc4⟩, ⟨kk0, kk1, m0, m1, hoA2, hoT2, by rw [← HMK.out]; exact HVO.out, HALL.out, HALR.out, HCOV.out⟩, hq2, hgf⟩
end Go.Proofs.YtmhbbjbbckdlbaaDoor
