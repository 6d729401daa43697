/-
  The walk of ChainGrows.
-/
import Derived.Test.YtpbcpobbjoopnaaGj
namespace Go.Proofs.Ytpbcpobbjoopnaa
open Go.RowKit
set_option maxRecDepth 100000
set_option linter.unusedVariables false

/-- A row of numbers lies apart from a box of another type. -/
theorem row_ne {w : World} {B n : Nat} {v : Value} {xs : List Value} {b : Nat} {t : TypeId} {cs : Array Value} (h : w.ownsRow B 3 1 v n xs) (hb : Blk w b t cs) (ht : t ≠ 3) : ∀ k, v.ownBlock = some k → k ≠ b := by
  intro k hk e
  obtain ⟨hl, h⟩ := h
  rcases h with ⟨rfl, rfl⟩ | ⟨g, cap, cur, rfl, hB, hg, _⟩
  · simp [Value.ownBlock] at hk
  · simp [Value.ownBlock] at hk
    subst hk
    subst e
    unfold Blk at hb
    rw [hg] at hb
    injection hb with hb
    injection hb with _ hb
    exact ht hb.symm
theorem row_lt {w : World} {B n : Nat} {v : Value} {xs : List Value} (h : w.ownsRow B 3 1 v n xs) : ∀ k, v.ownBlock = some k → B ≤ k ∧ k < w.heap.size := by
  intro k hk
  obtain ⟨hl, h⟩ := h
  rcases h with ⟨rfl, rfl⟩ | ⟨g, cap, cur, rfl, hB, hg, _⟩
  · simp [Value.ownBlock] at hk
  · simp [Value.ownBlock] at hk
    subst hk
    exact ⟨hB, blk_lt hg⟩
theorem row_next {w w' : World} {B n : Nat} {v : Value} {xs : List Value} (h : w.ownsRow B 3 1 v n xs) (hb : Below w.heap.size w w') : w'.ownsRow B 3 1 v n xs :=
  ownsRow_keep h fun x _ _ hl => hb.block x hl
theorem row_put3 {w : World} {B n b : Nat} {v : Value} {xs : List Value} (h : w.ownsRow B 3 1 v n xs) (hn : ∀ k, v.ownBlock = some k → k ≠ b) (v0 v1 v2 : Value) : (((w.setCell ⟨b, 0, none⟩ v0).setCell ⟨b, 1, none⟩ v1).setCell ⟨b, 2, none⟩ v2).ownsRow B 3 1 v n xs :=
  ownsRow_keep h fun x hx _ _ => ((Below.heap_setCell _ ⟨b, 2, none⟩ _ x (hn x hx)).trans ((Below.heap_setCell _ ⟨b, 1, none⟩ _ x (hn x hx)).trans (Below.heap_setCell w ⟨b, 0, none⟩ _ x (hn x hx))))
theorem row_cells {w : World} {B n : Nat} {v : Value} {l : List Nat} (h : w.ownsRow B 3 1 v n (numL l)) (hn : 0 < n) : ∃ g cap, v = .slice (some ⟨g, 0, none⟩) n cap ∧ n ≤ cap ∧ cap ≤ maxLen ∧ B ≤ g ∧ g < w.heap.size ∧ ∀ j x : Nat, l[j]? = some x → w.cell? ⟨g, j, none⟩ = some (.int .i64 x) := by
  obtain ⟨hl, h⟩ := h
  rcases h with ⟨_, h0⟩ | ⟨g, cap, cur, rfl, hB, hg, hc, hm, hs, ht⟩
  · omega
  · refine ⟨g, cap, rfl, hc, hm, hB, blk_lt hg, fun j x hj => ?_⟩
    have h1 : (numL l)[j]? = some (.int .i64 (x : Int)) := by simp [numL, hj]
    have h2 : j < n := by
      rcases Nat.lt_or_ge j n with h2 | h2
      · exact h2
      · rw [List.getElem?_eq_none (by omega)] at h1; cases h1
    rw [← ht, List.getElem?_take, if_pos (by omega)] at h1
    rw [cell_row hg]
    simpa using h1
theorem numL_range (j : Nat) : numL (List.range j) ++ [.int .i64 (j : Int)] = numL (List.range (j + 1)) := by simp [numL, List.range_succ]

/-- What append leaves of what is no row of numbers. -/
theorem Blk.grownRow {w w' : World} {B n : Nat} {v : Value} {xs : List Value} {b : Nat} {t : TypeId} {cs : Array Value} (h : Blk w b t cs) (hr : w.ownsRow B 3 1 v n xs) (ht : t ≠ 3) (hg : w.grownBy w' v.ownBlock) : Blk w' b t cs :=
  (hg.block b h.lt (fun e => row_ne hr h ht b e.symm rfl)).trans h
theorem Own.grownRow {w w' : World} {base nw c : Nat} {A : Option Addr} {wd : Nat → Int} {r : Option Nat} (h : Own w base A nw c wd) (hr : ∀ k, r = some k → k < base) (hg : w.grownBy w' r) : Own w' base A nw c wd :=
  h.keep fun x hx hl => hg.block x hl (fun e => by have := hr x e.symm; omega)
theorem OwnT.grownRow {w w' : World} {base n c : Nat} {A : Option Addr} {F : Nat → Fr} {r : Option Nat} (h : OwnT w base A n c F) (hr : ∀ k, r = some k → k < base) (hg : w.grownBy w' r) : OwnT w' base A n c F :=
  h.keep fun x hx hl => hg.block x hl (fun e => by have := hr x e.symm; omega)

theorem drew_cell {w : World} {p : Addr} {v : Value} (h : w.cell? p = some v) : w.drew.cell? p = some v := h
/-- At the loop's head: j frames have been taken and linked. -/
def GrowsAt (k : Nat) (w : World) (b5 B0 : Nat) (fv iv : Value) (wr : World) : Prop :=
  ∃ (j : Nat) (Bj : Option Addr) (dj : Nat) (Gt : Option Addr) (ej : Nat), j ≤ k ∧ iv = .int .i64 j ∧ Blk wr b5 25 #[.int .i64 3, .slice Bj 160 dj, .slice Gt 20 ej] ∧
    Arr wr wr.heap.size Bj 160 dj (fun _ => 0) ∧ Tab wr wr.heap.size Gt 20 ej (Gj j) ∧ wr.ownsRow B0 3 1 fv j (numL (List.range j)) ∧ Below w.heap.size w wr ∧ B0 ≤ wr.heap.size
/-- Behind the append: the box x and the space's box hold the space with one frame more. -/
def GrowsMid (j : Nat) (w : World) (b5 B0 x : Nat) (A1 : Option Addr) (c1 : Nat) (g1 e1 : Nat) (fv : Value) (wx : World) : Prop :=
  Blk wx b5 25 #[.int .i64 3, .slice A1 160 c1, .slice (some ⟨g1, 0, none⟩) 20 e1] ∧ Blk wx x 25 #[.int .i64 3, .slice A1 160 c1, .slice (some ⟨g1, 0, none⟩) 20 e1] ∧
    Arr wx wx.heap.size A1 160 c1 (fun _ => 0) ∧ Tab wx wx.heap.size (some ⟨g1, 0, none⟩) 20 e1 (Hj j) ∧ wx.ownsRow B0 3 1 fv (j + 1) (numL (List.range (j + 1))) ∧ Below w.heap.size w wx ∧ B0 ≤ wx.heap.size

/-- What Link gives where it links; where it refuses. -/
def LnkYes (s : Int) (nw : Nat) (wd : Nat → Int) (n : Nat) (G : Nat → Fr) (w : World) (e : Ending) (w' : World) : Prop :=
  ∃ (A1 : Option Addr) (c1 g c2 : Nat), e = .returned (.tuple #[.agg #[.int .i64 s, .slice A1 nw c1, .slice (some ⟨g, 0, none⟩) n c2], .int .i64 0]) ∧
    Own w' w.heap.size A1 nw c1 wd ∧ OwnT w' w.heap.size (some ⟨g, 0, none⟩) n c2 G ∧ Below w.heap.size w w'
theorem LnkOut.yes {s : Int} {nw n : Nat} {wd : Nat → Int} {F G : Nat → Fr} {last f : Int} {w w' : World} {e : Ending} (h : LnkOut s nw wd n F last f w e w') (h0 : lnkE s nw wd n F last f = 0) (hG : link F last.toNat f = G) : LnkYes s nw wd n G w e w' := by
  rcases h with ⟨x, h1, h2, _⟩ | ⟨_, A1, c1, g, c2, he, h1, h2, h3⟩
  · exact absurd (h1.symm.trans h0) h2
  · subst hG; exact ⟨A1, c1, g, c2, he, h1, h2, h3⟩
theorem LnkOut.no {s : Int} {nw n : Nat} {wd : Nat → Int} {F : Nat → Fr} {last f x : Int} {w w' : World} {e : Ending} (h : LnkOut s nw wd n F last f w e w') (h0 : lnkE s nw wd n F last f = x) (hx : x ≠ 0) : e = .returned (.tuple #[zSp, .int .i64 x]) ∧ Below w.heap.size w w' := by
  rcases h with ⟨y, h1, h2, he, hb⟩ | ⟨h1, _⟩
  · obtain rfl : x = y := h0.symm.trans h1
    exact ⟨he, hb⟩
  · exact absurd (h0.symm.trans h1) hx
/-- Behind the link: the box x holds the space with its new link. -/
def GrowsEnd (j : Nat) (w : World) (b5 B0 x : Nat) (A1 : Option Addr) (c1 : Nat) (g1 e1 : Nat) (fv : Value) (wx : World) : Prop :=
  ∃ (A2 : Option Addr) (c2 g2 e2 : Nat), Blk wx b5 25 #[.int .i64 3, .slice A1 160 c1, .slice (some ⟨g1, 0, none⟩) 20 e1] ∧ Blk wx x 25 #[.int .i64 3, .slice A2 160 c2, .slice (some ⟨g2, 0, none⟩) 20 e2] ∧
    Own wx B0 A2 160 c2 (fun _ => 0) ∧ OwnT wx B0 (some ⟨g2, 0, none⟩) 20 e2 (Gj (j + 1)) ∧ wx.ownsRow B0 3 1 fv (j + 1) (numL (List.range (j + 1))) ∧ Below w.heap.size w wx ∧ B0 ≤ wx.heap.size

set_option maxHeartbeats 8000000 in
theorem walkGrows (nn from_ : Int) (w : World) (n0 : -9223372036854775808 ≤ nn) (n1 : nn ≤ 9223372036854775807) (f0 : -9223372036854775808 ≤ from_) (f1 : from_ ≤ 9223372036854775807) :
    Calls Try.prog 6 #[.int .i64 nn, .int .i64 from_] w fun e w' => e = .returned (.bool true) ∧ Below w.heap.size w w' := by
  obtain ⟨i0, hi0, hz0, hz1, hz2⟩ := info_parts int_info
  obtain ⟨km, hkm, km1⟩ : ∃ km : Nat, nn % 12 = km ∧ km < 12 := ⟨(nn % 12).toNat, by omega, by omega⟩
  obtain ⟨k, hk⟩ : ∃ k, k = km + 1 := ⟨_, rfl⟩
  have HKM := Lib.hid hkm
  have hk0 : 0 < k := by omega
  have hk12 : k ≤ 12 := by omega
  have HKK := Lib.hid (show (km : Int) + 1 = (k : Int) by omega)
  clear hkm hk
  go_enter Try.func6, Try.ntmps6
  go_upto_region 2 with (go_at_call 25; refine (refNew_yes 3 20 w (by decide) (by decide) (by decide) (by decide)).mono ?_; rintro e w1 ⟨A, A', rfl, ha, ht, hb1⟩)
  obtain ⟨V, hV⟩ : ∃ V, V = w1.alloc (.cells #[.int .i64 3, .slice A 160 160, .slice A' 20 20] 25) := ⟨_, rfl⟩
  have hbv : Below w1.heap.size w1 V := by rw [hV]; exact (Below.refl _ _).alloc (Nat.le_refl _) _
  have BX := Lib.hid (show Blk V w1.heap.size 25 #[.int .i64 3, .slice A 160 160, .slice A' 20 20] by rw [hV]; exact Blk.new _ _ _)
  have hwb : w.heap.size ≤ w1.heap.size := hb1.size
  have hbz : w1.heap.size < V.heap.size := BX.out.lt
  have hf0 : (fun _ : Nat => frFree) = Gj 0 := funext fun t => (gj_out (by omega)).symm
  have ST := Lib.hid (show GrowsAt k w w1.heap.size V.heap.size (.slice none 0 0) (.int .i64 0) V from
    ⟨0, A, 160, A', 20, Nat.zero_le _, rfl, BX.out, ha.arr.next hbv, by rw [← hf0]; exact ht.tab.next hbv, World.ownsRow_nil _ _ _ _, below_next hb1 (Nat.le_refl _) hbv, Nat.le_refl _⟩)
  have HV := Lib.hid hV
  obtain ⟨b5, hb5⟩ : ∃ b, b = w1.heap.size := ⟨_, rfl⟩
  obtain ⟨B0, hB0⟩ : ∃ b, b = V.heap.size := ⟨_, rfl⟩
  rw [← HV.out]
  rw [← hb5, ← hB0] at ST
  rw [← hb5] at hwb hbz ⊢
  rw [← hB0] at hbz
  clear hV hbv ha ht hb1 BX hf0 HV hb5 hB0
  go_upto_region 5 with (go_at_call 14; refine (mod_any nn 12 (by decide) (by decide) n0 n1 _).mono ?_; rintro e w' ⟨rfl, rfl⟩; rw [HKM.out])
  first | rw [HKK.out] | rw [show (1 : Int) + (km : Int) = (k : Int) by have := HKK.out; omega]
  go_loopw [8, 9] (fun fv iv wr => GrowsAt k w b5 B0 fv iv wr) (fun _ iv _ => k - (intOf iv).toNat)
  case atStart => exact ST.out
  case round =>
    obtain ⟨R, rfl⟩ : ∃ R, R = wr := ⟨_, rfl⟩
    obtain ⟨j, Bj, dj, Gt, ej, hj, rfl, hbx, haj, htj, hrow, hbj, hBR⟩ := hrel
    have BX := Lib.hid hbx
    have HA := Lib.hid haj
    have HT := Lib.hid htj
    have HR := Lib.hid hrow
    have HB := Lib.hid hbj
    have q0 := hbx.cell 0
    have q1 := hbx.cell 1
    have q2 := hbx.cell 2
    have qz := hbx.lt
    simp at q0 q1 q2
    clear hbx haj htj hrow hbj
    by_cases hlt : j < k
    · have hlt2 : (j : Int) < k := by omega
      go_upto_region 8 with (go_at_call 11; refine ((refTake_any 3 Bj Gt 160 dj 20 ej (fun _ => 0) (Gj j) 7 2 R HA.out HT.out).mono (fun e w' h => h.yes (gj_take (by omega)) (gj_least (by omega)))).mono ?_; rintro e wn ⟨A1, c1, g1, e1, rfl, ho, ht, hb⟩)
      obtain ⟨W, hW⟩ : ∃ W, W = wn.alloc (.cells #[.int .i64 3, .slice A1 160 c1, .slice (some ⟨g1, 0, none⟩) 20 e1] 25) := ⟨_, rfl⟩
      have hbw : Below wn.heap.size wn W := by rw [hW]; exact (Below.refl _ _).alloc (Nat.le_refl _) _
      have BN := Lib.hid (show Blk W wn.heap.size 25 #[.int .i64 3, .slice A1 160 c1, .slice (some ⟨g1, 0, none⟩) 20 e1] by rw [hW]; exact Blk.new _ _ _)
      have hbW := below_next hb (Nat.le_refl _) hbw
      have BX2 := Lib.hid (BX.out.next hbW)
      have HO := Lib.hid (ho.below hbw)
      have HTN := Lib.hid (show OwnT W R.heap.size (some ⟨g1, 0, none⟩) 20 e1 (Hj j) from ht.below hbw)
      have HR2 := Lib.hid (row_next HR.out hbW)
      have HRL := Lib.hid (fun k hk => (row_lt HR.out k hk).2)
      have HB2 := Lib.hid (below_next HB.out (Nat.le_refl _) hbW)
      have zx : R.heap.size ≤ wn.heap.size := hb.size
      have zw : wn.heap.size ≤ W.heap.size := hbw.size
      have nb5 : wn.heap.size ≠ b5 := by omega
      have r0 := BN.out.cell 0
      have r1 := BN.out.cell 1
      have r2 := BN.out.cell 2
      have rz := BN.out.lt
      have t0 := BX2.out.cell 0
      have t1 := BX2.out.cell 1
      have t2 := BX2.out.cell 2
      have tf0 := BX2.out.frozen 0
      have tf1 := BX2.out.frozen 1
      have tf2 := BX2.out.frozen 2
      have tz := BX2.out.lt
      simp at r0 r1 r2 t0 t1 t2
      have HW := Lib.hid hW
      clear hW hbw hb ho ht hbW q0 q1 q2 qz
      rw [← HW.out]
      go_upto_region 10 with fail
      go_cut [8] (fun fv wx => GrowsMid j w b5 B0 wn.heap.size A1 c1 g1 e1 fv wx)
      case first =>
        have HRA := Lib.hid (show (W.alloc (.cells #[.int .i64 (j : Int)] 3)).drew.ownsRow B0 3 1 u8 j (numL (List.range j)) from HR2.out.alloc _)
        have BNA := Lib.hid (show Blk (W.alloc (.cells #[.int .i64 (j : Int)] 3)).drew wn.heap.size 25 #[.int .i64 3, .slice A1 160 c1, .slice (some ⟨g1, 0, none⟩) 20 e1] from BN.out.alloc _)
        have BXA := Lib.hid (show Blk (W.alloc (.cells #[.int .i64 (j : Int)] 3)).drew b5 25 #[.int .i64 3, .slice Bj 160 dj, .slice Gt 20 ej] from BX2.out.alloc _)
        have HOA := Lib.hid (show Own (W.alloc (.cells #[.int .i64 (j : Int)] 3)).drew R.heap.size A1 160 c1 (fun _ => 0) from HO.out.below (((Below.refl _ _).alloc (Nat.le_refl _) _).drew))
        have HTA := Lib.hid (show OwnT (W.alloc (.cells #[.int .i64 (j : Int)] 3)).drew R.heap.size (some ⟨g1, 0, none⟩) 20 e1 (Hj j) from HTN.out.below (((Below.refl _ _).alloc (Nat.le_refl _) _).drew))
        have r0d : W.drew.cell? ⟨wn.heap.size, 0, none⟩ = some (.int .i64 3) := r0
        have r1d : W.drew.cell? ⟨wn.heap.size, 1, none⟩ = some (.slice A1 160 c1) := r1
        have r2d : W.drew.cell? ⟨wn.heap.size, 2, none⟩ = some (.slice (some ⟨g1, 0, none⟩) 20 e1) := r2
        go_region_held3 (fun w' => w'.cell? ⟨wn.heap.size, 0, none⟩ = some (.int .i64 3) ∧ w'.cell? ⟨wn.heap.size, 1, none⟩ = some (.slice A1 160 c1) ∧ w'.cell? ⟨wn.heap.size, 2, none⟩ = some (.slice (some ⟨g1, 0, none⟩) 20 e1))
          (first | (with_reducible exact ⟨r0d, r1d, r2d⟩) | (with_reducible exact ⟨Lib.cell?_alloc_some _ r0d, Lib.cell?_alloc_some _ r1d, Lib.cell?_alloc_some _ r2d⟩) | (with_reducible exact ⟨drew_cell (Lib.cell?_alloc_some _ r0), drew_cell (Lib.cell?_alloc_some _ r1), drew_cell (Lib.cell?_alloc_some _ r2)⟩) | (with_reducible exact ⟨u0, u1, u2⟩) | (with_reducible exact ⟨(cell_far3 nb5 _ _ _).trans u0, (cell_far3 nb5 _ _ _).trans u1, (cell_far3 nb5 _ _ _).trans u2⟩) | go_keep)
          (first | (rw [if_pos (by rfl)]; refine wp_append_own _ (.tmp 39) (.tmp 41) 26 rfl B0 3 i0 _ 1 8 Try.underlying26 hi0 hz0 hz1 hz2 rfl (by decide) _ j (numL (List.range j)) rfl HRA.out ⟨W.heap.size, 0, none⟩ 1 1 [.int .i64 j] rfl rfl (one_news (by go_simp)) (by simp [Value.oneCell']) (by simp only [maxLen]; omega) (by omega) (by simp; omega) ?_; intro vb wb hown hgr _; rw [numL_range] at hown; have bnb := BNA.out.grownRow HRA.out (by decide) hgr; have bxb := BXA.out.grownRow HRA.out (by decide) hgr; have u0 := bnb.cell 0; have u1 := bnb.cell 1; have u2 := bnb.cell 2; have k0 := bxb.cell 0; have k1 := bxb.cell 1; have k2 := bxb.cell 2; have k3 := bxb.frozen 0; have k4 := bxb.frozen 1; have k5 := bxb.frozen 2; have kz := bxb.lt; simp at u0 u1 u2 k0 k1 k2))
        have hfb := row_lt HR2.out
        have hob := row_block HR2.out
        have HBb := Lib.hid (((show Below B0 W (W.alloc (.cells #[.int .i64 (j : Int)] 3)).drew from ((Below.refl _ _).alloc (by omega) _).drew)).grown hgr (by simp; omega) hob)
        have hOb := HOA.out.grownRow HRL.out hgr
        have hTb := HTA.out.grownRow HRL.out hgr
        have FIN := Lib.hid (show GrowsMid j w b5 B0 wn.heap.size A1 c1 g1 e1 vb (((wb.setCell ⟨b5, 0, none⟩ (.int .i64 3)).setCell ⟨b5, 1, none⟩ (.slice A1 160 c1)).setCell ⟨b5, 2, none⟩ (.slice (some ⟨g1, 0, none⟩) 20 e1)) from
          ⟨bxb.set3 _ _ _, bnb.far3 nb5 _ _ _, (hOb.put3 (by omega) _ _ _).arr, (hTb.put3 (by omega) _ _ _).tab, row_put3 hown (row_ne hown bxb (by decide)) _ _ _, below_put3 (HB2.out.trans (HBb.out.mono (by omega))) hwb _ _ _, by have := HBb.out.size; simp; omega⟩)
        clear hown hgr bnb bxb hOb hTb hfb hob
        go_wp2
        go_meet
        exact FIN.out
      case rest =>
        obtain ⟨Z, rfl⟩ : ∃ Z, Z = wc := ⟨_, rfl⟩
        obtain ⟨hbx, hbn, haz, htz, hrow, hbz', hBZ⟩ := hcut
        by_cases hj0 : j = 0
        · have hj1 : ¬ (0 : Int) < (j : Int) := by omega
          have e : Hj j = Gj (j + 1) := by rw [hj0]; exact hj_zero
          rw [e] at htz
          have NX := Lib.hid (show GrowsAt k w b5 B0 _ (.int .i64 ((j : Int) + 1)) Z from ⟨j + 1, A1, c1, _, e1, by omega, by go_num, hbx, haz, htz, hrow, hbz', hBZ⟩)
          clear hbx hbn haz htz hrow hbz' e hj0
          go_wp2
          exact ⟨NX.out, by simp [intOf]; omega⟩
        · have hj1 : (0 : Int) < (j : Int) := by omega
          obtain ⟨jm, hjm⟩ : ∃ jm, jm = j - 1 := ⟨_, rfl⟩
          have HJM := Lib.hid hjm
          obtain ⟨fb, cap, rfl, hcap, hmax, hfB, hfz, hfc⟩ := row_cells hrow (by omega)
          have y0 := hbx.cell 0
          have y1 := hbx.cell 1
          have y2 := hbx.cell 2
          have y3 := hfc jm jm (by rw [List.getElem?_range (by omega)])
          have yz := hbx.lt
          simp at y0 y1 y2
          have HBX := Lib.hid hbx
          have HBN := Lib.hid hbn
          have HAZ := Lib.hid (show Arr Z.drew Z.drew.heap.size A1 160 c1 (fun _ => 0) from haz)
          have HTZ := Lib.hid (show Tab Z.drew Z.drew.heap.size (some ⟨g1, 0, none⟩) 20 e1 (Hj j) from htz)
          have HBND := Lib.hid (show Blk Z.drew wn.heap.size 25 #[.int .i64 3, .slice A1 160 c1, .slice (some ⟨g1, 0, none⟩) 20 e1] from hbn)
          have HRZ := Lib.hid hrow
          have HBZ := Lib.hid hbz'
          have hxz : wn.heap.size < Z.heap.size := hbn.lt
          have s1 : IntKind.i64.wrap ((j : Int) - 1) = (jm : Int) := by rw [IntWalk.i64_in _ (by omega)]; omega
          have s2 : 0 ≤ (jm : Int) ∧ (jm : Int) < (j : Int) + 1 := by omega
          have s3 : jm < j + 1 := by omega
          clear hjm
          have nfx : fb ≠ wn.heap.size := row_ne hrow hbn (by decide) fb rfl
          have nfb : fb ≠ b5 := by omega
          clear hbx hbn haz htz hrow hbz' hfc
          go_upto_region 12 with fail
          go_cut [12] (fun ev wx => ev = .int .i64 0 ∧ GrowsEnd j w b5 B0 wn.heap.size A1 c1 g1 e1 (.slice (some ⟨fb, 0, none⟩) (j + 1) cap) wx)
          case first =>
            have y0d : Z.drew.cell? ⟨b5, 0, none⟩ = some (.int .i64 3) := y0
            have y1d : Z.drew.cell? ⟨b5, 1, none⟩ = some (.slice A1 160 c1) := y1
            have y2d : Z.drew.cell? ⟨b5, 2, none⟩ = some (.slice (some ⟨g1, 0, none⟩) 20 e1) := y2
            have y3d : Z.drew.cell? ⟨fb, jm, none⟩ = some (.int .i64 (jm : Int)) := y3
            go_region_held3 (fun w' => w'.cell? ⟨b5, 0, none⟩ = some (.int .i64 3) ∧ w'.cell? ⟨b5, 1, none⟩ = some (.slice A1 160 c1) ∧ w'.cell? ⟨b5, 2, none⟩ = some (.slice (some ⟨g1, 0, none⟩) 20 e1) ∧ w'.cell? ⟨fb, jm, none⟩ = some (.int .i64 (jm : Int)))
              (first | (with_reducible exact ⟨y0d, y1d, y2d, y3d⟩) | (with_reducible exact ⟨u0, u1, u2, u3⟩) | (with_reducible exact ⟨(cell_far3 (Ne.symm nb5) _ _ _).trans u0, (cell_far3 (Ne.symm nb5) _ _ _).trans u1, (cell_far3 (Ne.symm nb5) _ _ _).trans u2, (cell_far3 nfx _ _ _).trans u3⟩) | go_keep)
              (first
                | (go_at_call 15; refine ((link5_any 3 A1 (some ⟨g1, 0, none⟩) 160 c1 20 e1 (fun _ => 0) (Hj j) (jm : Int) (j : Int) _ HAZ.out HTZ.out).mono (fun e w' h => h.yes (G := Gj (j + 1)) (by rw [HJM.out]; exact hj_link (by omega) (by omega)) (by rw [Int.toNat_natCast, HJM.out]; exact hj_succ (by omega)))).mono ?_; rintro e wq ⟨A2, c2, g2, e2, rfl, ho, ht, hb⟩; have u0 := (hb.cell (p := ⟨b5, 0, none⟩) yz).trans y0d; have u1 := (hb.cell (p := ⟨b5, 1, none⟩) yz).trans y1d; have u2 := (hb.cell (p := ⟨b5, 2, none⟩) yz).trans y2d; have u3 := (hb.cell (p := ⟨fb, jm, none⟩) hfz).trans y3d; have bb := HBND.out.next hb; have bz := bb.lt; have t0 := bb.cell 0; have t1 := bb.cell 1; have t2 := bb.cell 2; have t3 := bb.frozen 0; have t4 := bb.frozen 1; have t5 := bb.frozen 2; simp at t0 t1 t2))
            have hbZ : Below Z.heap.size Z wq := (show Below Z.heap.size Z Z.drew from (Below.refl _ _).drew).trans hb
            have hrq := row_next HRZ.out hbZ
            have FIN := Lib.hid (show GrowsEnd j w b5 B0 wn.heap.size A1 c1 g1 e1 (.slice (some ⟨fb, 0, none⟩) (j + 1) cap) (((wq.setCell ⟨wn.heap.size, 0, none⟩ (.int .i64 3)).setCell ⟨wn.heap.size, 1, none⟩ (.slice A2 160 c2)).setCell ⟨wn.heap.size, 2, none⟩ (.slice (some ⟨g2, 0, none⟩) 20 e2)) from
              ⟨A2, c2, g2, e2, (HBX.out.next hbZ).far3 (Ne.symm nb5) _ _ _, bb.set3 _ _ _, (ho.put3 hxz _ _ _).lower hBZ, (ht.put3 hxz _ _ _).lower hBZ, row_put3 hrq (fun k hk => by
                simp [Value.ownBlock] at hk
                omega) _ _ _, below_put3 (below_next HBZ.out (Nat.le_refl _) hbZ) (by omega) _ _ _, by have := hbZ.size; simp; omega⟩)
            clear hb ho ht bb t0 t1 t2 t3 t4 t5 hrq hbZ
            go_wp2
            go_meet
            exact ⟨rfl, FIN.out⟩
          case rest =>
            obtain ⟨Y, rfl⟩ : ∃ Y, Y = wc := ⟨_, rfl⟩
            obtain ⟨rfl, A2, c2, g2, e2, hb5', hbn', hoA, hoT, hrow', hbw', hBY⟩ := hcut
            have x0 := hbn'.cell 0
            have x1 := hbn'.cell 1
            have x2 := hbn'.cell 2
            have xz := hbn'.lt
            have b0' := hb5'.cell 0
            have b1' := hb5'.cell 1
            have b2' := hb5'.cell 2
            have b3' := hb5'.frozen 0
            have b4' := hb5'.frozen 1
            have b5' := hb5'.frozen 2
            have bz' := hb5'.lt
            simp at x0 x1 x2 b0' b1' b2'
            have NX := Lib.hid (show GrowsAt k w b5 B0 (.slice (some ⟨fb, 0, none⟩) (j + 1) cap) (.int .i64 ((j : Int) + 1)) (((Y.setCell ⟨b5, 0, none⟩ (.int .i64 3)).setCell ⟨b5, 1, none⟩ (.slice A2 160 c2)).setCell ⟨b5, 2, none⟩ (.slice (some ⟨g2, 0, none⟩) 20 e2)) from
              ⟨j + 1, A2, c2, _, e2, by omega, by go_num, hb5'.set3 _ _ _, (hoA.put3 hbz _ _ _).arr, (hoT.put3 hbz _ _ _).tab, row_put3 hrow' (fun k hk => by
                simp [Value.ownBlock] at hk
                omega) _ _ _, below_put3 hbw' hwb _ _ _, by simpa using hBY⟩)
            clear hb5' hbn' hoA hoT hrow' hbw' HBX HBN HAZ HTZ HBND HRZ HBZ y0 y1 y2 y3 s1 s2
            go_wp2
            exact ⟨NX.out, by simp [intOf]; omega⟩
    · obtain rfl : j = k := by omega
      have hlt2 : ¬ (j : Int) < j := by omega
      obtain ⟨t, htt⟩ : ∃ t : Nat, from_ % (j : Int) = t := ⟨(from_ % (j : Int)).toNat, by have := Int.emod_nonneg from_ (show (j : Int) ≠ 0 by omega); omega⟩
      have htj : t < j := by have := Int.emod_lt_of_pos from_ (show 0 < (j : Int) by omega); omega
      have HTM := Lib.hid htt
      have bj0 : (1 : Int) ≤ (j : Int) := by omega
      have bj1 : (j : Int) ≤ 9223372036854775807 := by omega
      obtain ⟨fb, cap, rfl, hcap, hmax, hfB, hfz, hfc⟩ := row_cells HR.out hk0
      obtain ⟨l1, l2, l3, l4⟩ := gj_list (k := j) (t := t) (by omega) htj
      have L1 := Lib.hid l1
      have L2 := Lib.hid l2
      have L3 := Lib.hid l3
      have L4 := Lib.hid l4
      have LL := Lib.hid (gj_loop (k := j) hk0 (by omega))
      have HFC := Lib.hid hfc
      clear htt l1 l2 l3 l4 hfc
      have ht2 : 0 ≤ (t : Int) ∧ (t : Int) < (j : Int) := by omega
      have y3 := HFC.out t t (by rw [List.getElem?_range htj])
      go_upto_region 17 with (go_at_call 14; refine (mod_any from_ j bj0 bj1 f0 f1 _).mono ?_; rintro e w' ⟨rfl, rfl⟩; rw [HTM.out])
      have q0d : R.drew.cell? ⟨b5, 0, none⟩ = some (.int .i64 3) := q0
      have q1d : R.drew.cell? ⟨b5, 1, none⟩ = some (.slice Bj 160 dj) := q1
      have q2d : R.drew.cell? ⟨b5, 2, none⟩ = some (.slice Gt 20 ej) := q2
      have y3d : R.drew.cell? ⟨fb, t, none⟩ = some (.int .i64 (t : Int)) := y3
      have HAD := Lib.hid (show Arr R.drew R.drew.heap.size Bj 160 dj (fun _ => 0) from HA.out)
      have HTD := Lib.hid (show Tab R.drew R.drew.heap.size Gt 20 ej (Gj j) from HT.out)
      go_region_held3 (fun w' => w'.cell? ⟨b5, 0, none⟩ = some (.int .i64 3) ∧ w'.cell? ⟨b5, 1, none⟩ = some (.slice Bj 160 dj) ∧ w'.cell? ⟨b5, 2, none⟩ = some (.slice Gt 20 ej) ∧ w'.cell? ⟨fb, t, none⟩ = some (.int .i64 (t : Int)))
        (first | (with_reducible exact ⟨q0d, q1d, q2d, y3d⟩) | (with_reducible exact ⟨u0, u1, u2, u3⟩) | go_keep)
        (first
          | (go_at_call 17; refine (list5_any 3 Bj Gt 160 dj 20 ej (fun _ => 0) (Gj j) t _ HAD.out HTD.out).mono ?_; rintro e W1 ⟨A3, c3, rfl, hn3, hb1⟩; rw [L2.out, L3.out] at hn3; rw [L2.out, L3.out, L1.out]; have u0 := (hb1.cell (p := ⟨b5, 0, none⟩) qz).trans q0d; have u1 := (hb1.cell (p := ⟨b5, 1, none⟩) qz).trans q1d; have u2 := (hb1.cell (p := ⟨b5, 2, none⟩) qz).trans q2d; have u3 := (hb1.cell (p := ⟨fb, t, none⟩) hfz).trans y3d))
      have hbR : Below R.heap.size R W1 := (show Below R.heap.size R R.drew from (Below.refl _ _).drew).trans hb1
      obtain ⟨jm, hjm⟩ : ∃ jm, jm = j - 1 := ⟨_, rfl⟩
      have HJM := Lib.hid hjm
      have HN3 := Lib.hid (hn3.congr (f' := fun i => ((t + i : Nat) : Int)) (fun i hi => L4.out i hi))
      have HBR := Lib.hid (below_next HB.out (Nat.le_refl _) hbR)
      have HA1 := Lib.hid (HA.out.next hbR)
      have HT1 := Lib.hid (HT.out.next hbR)
      have z5 : b5 < W1.heap.size := Nat.lt_of_lt_of_le qz hbR.size
      have zf : fb < W1.heap.size := Nat.lt_of_lt_of_le hfz hbR.size
      have y0 := (hbR.cell (p := ⟨b5, 0, none⟩) qz).trans q0
      have y1 := (hbR.cell (p := ⟨b5, 1, none⟩) qz).trans q1
      have y2 := (hbR.cell (p := ⟨b5, 2, none⟩) qz).trans q2
      have y3 := (hbR.cell (p := ⟨fb, jm, none⟩) hfz).trans (HFC.out jm jm (by rw [List.getElem?_range (by omega)]))
      have y4 := (hbR.cell (p := ⟨fb, 0, none⟩) hfz).trans (HFC.out 0 0 (by rw [List.getElem?_range hk0]))
      have HFR := Lib.hid (fun (i : Nat) (hi : i < j) => (hbR.cell (p := ⟨fb, i, none⟩) hfz).trans (HFC.out i i (by rw [List.getElem?_range hi])))
      have s1 : IntKind.i64.wrap ((j : Int) - 1) = (jm : Int) := by rw [IntWalk.i64_in _ (by omega)]; omega
      have s2 : 0 ≤ (jm : Int) ∧ (jm : Int) < (j : Int) := by omega
      have s3 : jm < j := by omega
      have N := Lib.hid (show ∀ W, Below W1.heap.size W1 W → Calls Try.prog 15 #[.agg #[.int .i64 3, .slice Bj 160 dj, .slice Gt 20 ej], .int .i64 (jm : Int), .int .i64 ((0 : Nat) : Int)] W (fun e w' => e = .returned (.tuple #[zSp, .int .i64 5]) ∧ Below W.heap.size W w') from
        fun W hW => (link5_any 3 Bj Gt 160 dj 20 ej (fun _ => 0) (Gj j) (jm : Int) ((0 : Nat) : Int) W (HA1.out.next hW) (HT1.out.next hW)).mono (fun e w' h => h.no (by rw [HJM.out]; exact LL.out) (by decide)))
      clear hb1 hbR hn3 q0 q1 q2 q0d q1d q2d y3d u0 u1 u2 u3 hjm HFC HAD HTD HA HT HB HR
      go_upto_region 18 with fail
      go_cut [17] (fun ev wx => ev = .int .i64 5 ∧ Below W1.heap.size W1 wx)
      case first =>
        have y0d : W1.drew.cell? ⟨b5, 0, none⟩ = some (.int .i64 3) := y0
        have y0a : (W1.alloc (.cells #[.int .i64 0, .slice none 0 0, .slice none 0 0] 25)).drew.cell? ⟨b5, 0, none⟩ = some (.int .i64 3) := (((Below.refl _ W1).alloc (Nat.le_refl _) (.cells #[.int .i64 0, .slice none 0 0, .slice none 0 0] 25)).cell (p := ⟨b5, 0, none⟩) z5).trans y0
        have y1d : W1.drew.cell? ⟨b5, 1, none⟩ = some (.slice Bj 160 dj) := y1
        have y1a : (W1.alloc (.cells #[.int .i64 0, .slice none 0 0, .slice none 0 0] 25)).drew.cell? ⟨b5, 1, none⟩ = some (.slice Bj 160 dj) := (((Below.refl _ W1).alloc (Nat.le_refl _) (.cells #[.int .i64 0, .slice none 0 0, .slice none 0 0] 25)).cell (p := ⟨b5, 1, none⟩) z5).trans y1
        have y2d : W1.drew.cell? ⟨b5, 2, none⟩ = some (.slice Gt 20 ej) := y2
        have y2a : (W1.alloc (.cells #[.int .i64 0, .slice none 0 0, .slice none 0 0] 25)).drew.cell? ⟨b5, 2, none⟩ = some (.slice Gt 20 ej) := (((Below.refl _ W1).alloc (Nat.le_refl _) (.cells #[.int .i64 0, .slice none 0 0, .slice none 0 0] 25)).cell (p := ⟨b5, 2, none⟩) z5).trans y2
        have y3d : W1.drew.cell? ⟨fb, jm, none⟩ = some (.int .i64 (jm : Int)) := y3
        have y3a : (W1.alloc (.cells #[.int .i64 0, .slice none 0 0, .slice none 0 0] 25)).drew.cell? ⟨fb, jm, none⟩ = some (.int .i64 (jm : Int)) := (((Below.refl _ W1).alloc (Nat.le_refl _) (.cells #[.int .i64 0, .slice none 0 0, .slice none 0 0] 25)).cell (p := ⟨fb, jm, none⟩) zf).trans y3
        have y4d : W1.drew.cell? ⟨fb, 0, none⟩ = some (.int .i64 ((0 : Nat) : Int)) := y4
        have y4a : (W1.alloc (.cells #[.int .i64 0, .slice none 0 0, .slice none 0 0] 25)).drew.cell? ⟨fb, 0, none⟩ = some (.int .i64 ((0 : Nat) : Int)) := (((Below.refl _ W1).alloc (Nat.le_refl _) (.cells #[.int .i64 0, .slice none 0 0, .slice none 0 0] 25)).cell (p := ⟨fb, 0, none⟩) zf).trans y4
        have HUAH := Lib.hid (show Below W1.heap.size W1 (W1.alloc (.cells #[.int .i64 0, .slice none 0 0, .slice none 0 0] 25)).drew from ((Below.refl _ _).alloc (Nat.le_refl _) _).drew)
        have HUDH := Lib.hid (show Below W1.heap.size W1 W1.drew from (Below.refl _ _).drew)
        have z5d : b5 < W1.drew.heap.size := z5
        have zfd : fb < W1.drew.heap.size := zf
        have z5a : b5 < (W1.alloc (.cells #[.int .i64 0, .slice none 0 0, .slice none 0 0] 25)).drew.heap.size := Nat.lt_of_lt_of_le z5 HUAH.out.size
        have zfa : fb < (W1.alloc (.cells #[.int .i64 0, .slice none 0 0, .slice none 0 0] 25)).drew.heap.size := Nat.lt_of_lt_of_le zf HUAH.out.size
        have HBBH := Lib.hid (show Blk (W1.alloc (.cells #[.int .i64 0, .slice none 0 0, .slice none 0 0] 25)).drew W1.heap.size 25 #[.int .i64 0, .slice none 0 0, .slice none 0 0] from Blk.new _ _ _)
        go_region_held3 (fun w' => w'.cell? ⟨b5, 0, none⟩ = some (.int .i64 3) ∧ w'.cell? ⟨b5, 1, none⟩ = some (.slice Bj 160 dj) ∧ w'.cell? ⟨b5, 2, none⟩ = some (.slice Gt 20 ej) ∧ w'.cell? ⟨fb, jm, none⟩ = some (.int .i64 (jm : Int)) ∧ w'.cell? ⟨fb, 0, none⟩ = some (.int .i64 ((0 : Nat) : Int)))
          (first | (with_reducible exact ⟨y0d, y1d, y2d, y3d, y4d⟩) | (with_reducible exact ⟨u0, u1, u2, u3, u4⟩) | (with_reducible exact ⟨y0a, y1a, y2a, y3a, y4a⟩) | (with_reducible exact ⟨(cell_far3 (Nat.ne_of_lt z5) _ _ _).trans u0, (cell_far3 (Nat.ne_of_lt z5) _ _ _).trans u1, (cell_far3 (Nat.ne_of_lt z5) _ _ _).trans u2, (cell_far3 (Nat.ne_of_lt zf) _ _ _).trans u3, (cell_far3 (Nat.ne_of_lt zf) _ _ _).trans u4⟩) | go_keep)
          (first
            | (go_at_call 15; refine (N.out _ (by first | (with_reducible exact HUDH.out) | (with_reducible exact HUAH.out))).mono ?_; rintro e wq ⟨rfl, hb⟩; have u0 : wq.cell? ⟨b5, 0, none⟩ = some (.int .i64 3) := (hb.cell (p := ⟨b5, 0, none⟩) (by first | (with_reducible exact z5d) | (with_reducible exact z5a))).trans (by first | (with_reducible exact y0d) | (with_reducible exact y0a)); have u1 : wq.cell? ⟨b5, 1, none⟩ = some (.slice Bj 160 dj) := (hb.cell (p := ⟨b5, 1, none⟩) (by first | (with_reducible exact z5d) | (with_reducible exact z5a))).trans (by first | (with_reducible exact y1d) | (with_reducible exact y1a)); have u2 : wq.cell? ⟨b5, 2, none⟩ = some (.slice Gt 20 ej) := (hb.cell (p := ⟨b5, 2, none⟩) (by first | (with_reducible exact z5d) | (with_reducible exact z5a))).trans (by first | (with_reducible exact y2d) | (with_reducible exact y2a)); have u3 : wq.cell? ⟨fb, jm, none⟩ = some (.int .i64 (jm : Int)) := (hb.cell (p := ⟨fb, jm, none⟩) (by first | (with_reducible exact zfd) | (with_reducible exact zfa))).trans (by first | (with_reducible exact y3d) | (with_reducible exact y3a)); have u4 : wq.cell? ⟨fb, 0, none⟩ = some (.int .i64 ((0 : Nat) : Int)) := (hb.cell (p := ⟨fb, 0, none⟩) (by first | (with_reducible exact zfd) | (with_reducible exact zfa))).trans (by first | (with_reducible exact y4d) | (with_reducible exact y4a)); (try have bb : Blk wq W1.heap.size 25 #[.int .i64 0, .slice none 0 0, .slice none 0 0] := (by with_reducible exact HBBH.out.next hb)); (try have bz := bb.lt); (try have t0 := bb.cell 0); (try have t1 := bb.cell 1); (try have t2 := bb.cell 2); (try have t3 := bb.frozen 0); (try have t4 := bb.frozen 1); (try have t5 := bb.frozen 2); (try simp at t0 t1 t2); unfold zSp))
        all_goals
          first
          | (have HQ := Lib.hid (below_put3 (below_next HUAH.out (Nat.le_refl _) hb) (Nat.le_refl _) (.int .i64 0) (.slice none 0 0) (.slice none 0 0)); clear hb bb t0 t1 t2 t3 t4 t5; go_wp2; go_meet; exact ⟨rfl, HQ.out⟩)
          | (have HQ := Lib.hid (below_next HUDH.out (Nat.le_refl _) hb); have HQ2 := Lib.hid (HQ.out.alloc HQ.out.size (.cells #[.int .i64 0, .slice none 0 0, .slice none 0 0] 25)); clear hb; go_wp2; go_meet; exact ⟨rfl, HQ2.out⟩)
      case rest =>
        obtain ⟨Y, rfl⟩ : ∃ Y, Y = wc := ⟨_, rfl⟩
        obtain ⟨rfl, hbY⟩ := hcut
        have HBY := Lib.hid (below_next HBR.out (Nat.le_refl _) hbY)
        have HN4 := Lib.hid (HN3.out.next hbY)
        have HNF := Lib.hid (show Nums Y Y.heap.size (some ⟨fb, t, none⟩) (j - t) (cap - t) (fun i => ((t + i : Nat) : Int)) from
          ⟨by omega, by omega, (fun e => by cases e), fun _ => ⟨fb, t, rfl, Nat.lt_of_lt_of_le zf hbY.size, fun i hi => (hbY.cell (p := ⟨fb, t + i, none⟩) zf).trans (HFR.out (t + i) (by omega))⟩⟩)
        have hjt : j - t ≤ 1048576 := by omega
        have c1' : (t : Int) ≤ (j : Int) := by omega
        have c2' : t ≤ j := by omega
        have c3' : (j : Int) ≤ (cap : Int) := by omega
        clear hbY y0 y1 y2 y3 y4 s1 s2 s3 N
        go_wp2_with (first
          | (go_at_call 20; refine (sameInts_yes A3 (some ⟨fb, t, none⟩) (j - t) c3 (cap - t) _ Y HN4.out HNF.out hjt).mono ?_; rintro e w8 ⟨rfl, hb8⟩; have HB8 := Lib.hid (below_next HBY.out (Nat.le_refl _) hb8); clear hb8)
          | (go_at_call 8; refine (awake5_any _).mono ?_; rintro e w9 ⟨rfl, hb9⟩))
        go_ret
        exact ⟨rfl, below_next HB8.out (Nat.le_refl _) hb9⟩
end Go.Proofs.Ytpbcpobbjoopnaa
