/-
  The walk of PoolBack.
-/
import Derived.Test.YtpjhgdgdckndeaaDoorTakes0
import Derived.Deep.RegionHeld3
import Derived.Deep.DeepCutAuto
import Derived.Deep.CutBlock
namespace Go.Proofs.YtpjhgdgdckndeaaDoor
open Go.RowKit
set_option maxRecDepth 100000
set_option linter.unusedVariables false

set_option maxHeartbeats 8000000 in
theorem walkBack4 (Al : Option Addr) (nl cl : Nat) (ow bt : Int) (w : World) (hL : ListP w w.heap.size Al nl cl) (hD : Db w) (a0 : -9223372036854775808 ≤ ow) (a1 : ow ≤ 9223372036854775807) (b0 : -9223372036854775808 ≤ bt) (b1 : bt ≤ 9223372036854775807) :
    Calls Tryd.prog 5 #[.slice Al nl cl, .int .i64 ow, .int .i64 bt] w fun e w' => e = .returned (.bool true) ∧ Below w.heap.size w w' := by
  have HD := Lib.hid hD
  clear hD
  go_enter Tryd.func5, Tryd.ntmps5
  go_wp2_with fail
  refine (deck_any Al nl cl w hL).mono ?_
  rintro e U2 ⟨rfl, hd, hb, hz⟩
  have HDK := Lib.hid hd
  have HBU2 := Lib.hid hb
  clear hd hb hL hz
  go_wp2_with fail
  refine (space_any w.heap.size U2 HDK.out).mono ?_
  rintro e U3 ⟨k, m, B, d, gb, d', wd, F, L, rfl, k0, k1, m0, m1, hoA, hoT, ⟨hvp, how⟩, _, hG⟩
  have HBU3 := Lib.hid (below_turn HBU2.out hG (Nat.le_refl _))
  have HA3 := Lib.hid hoA.arr
  have HT3 := Lib.hid hoT.tab
  have HVP := Lib.hid hvp
  have HOW := Lib.hid how
  have hmk0 : 0 < m * 2 ^ k := Nat.mul_pos (by omega) (Nat.two_pow_pos k)
  have hmk1 : m * 2 ^ k ≤ 16384 := prod_le (by omega) (by omega)
  obtain ⟨mk, hmk⟩ : ∃ mk, mk = m * 2 ^ k := ⟨_, rfl⟩
  rw [← hmk] at HA3 HVP hmk0 hmk1 ⊢
  clear hG hoA hoT HDK HBU2 hvp how hmk
  go_wp2_with fail
  obtain ⟨V, hV⟩ : ∃ V, V = U3.alloc (.cells #[.int .i64 k, .slice B mk d, .slice (some ⟨gb, 0, none⟩) m d'] 26) := ⟨_, rfl⟩
  have hbv : Below U3.heap.size U3 V := by rw [hV]; exact (Below.refl _ _).alloc (Nat.le_refl _) _
  have BY := Lib.hid (show Blk V U3.heap.size 26 #[.int .i64 k, .slice B mk d, .slice (some ⟨gb, 0, none⟩) m d'] by rw [hV]; exact Blk.new _ _ _)
  have HBV := Lib.hid (below_next HBU3.out (Nat.le_refl _) hbv)
  have HA := Lib.hid (HA3.out.next hbv)
  have HT := Lib.hid (HT3.out.next hbv)
  have HDV := Lib.hid (HD.out.next HBV.out)
  have HV := Lib.hid hV
  clear hV hbv HBU3 HA3 HT3 HD
  have q0 := BY.out.cell 0
  have q1 := BY.out.cell 1
  have q2 := BY.out.cell 2
  have qz := BY.out.lt
  simp at q0 q1 q2
  have HLL := Lib.hid (show (ownL F (-1) m).length = cntP (owB F (-1)) m from lstP_length (owB F (-1)) m)
  obtain ⟨cn, hcn⟩ : ∃ cn, cn = cntP (owB F (-1)) m := ⟨_, rfl⟩
  rw [← hcn] at HLL
  have HCN := Lib.hid hcn
  have hcm : cn ≤ m := by rw [hcn]; exact cntP_le _ _
  clear hcn
  obtain ⟨om, hom, om0, om1⟩ : ∃ z, ow % 1000 = z ∧ 0 ≤ z ∧ z < 1000 := ⟨_, rfl, by omega, by omega⟩
  obtain ⟨bm, hbm, bm0, bm1⟩ : ∃ z, bt % 4 = z ∧ 0 ≤ z ∧ z < 4 := ⟨_, rfl, by omega, by omega⟩
  have HOM := Lib.hid hom
  have HBM := Lib.hid hbm
  have s1 : IntKind.i64.wrap (100 + om) = 100 + om := IntWalk.i64_in _ (by omega)
  clear hom hbm
  rw [← HV.out]
  go_upto_region 4 with (first
    | (go_at_call 11; refine (refFreeC_any k _ (some ⟨gb, 0, none⟩) m d' F _ HT.out (by omega)).mono ?_; rintro e U4 ⟨A2, e2, rfl, n2, hb4⟩; rw [HLL.out] at n2 ⊢)
    | (go_at_call 17; refine (mod_any ow 1000 (by omega) (by omega) a0 a1 _).mono ?_; rintro e w' ⟨rfl, rfl⟩; rw [HOM.out]))
  -- HERE
  have zq : U3.heap.size < U4.heap.size := by have := hb4.size; omega
  have y0 := (hb4.cell (p := ⟨U3.heap.size, 0, none⟩) qz).trans q0
  have y1 := (hb4.cell (p := ⟨U3.heap.size, 1, none⟩) qz).trans q1
  have y2 := (hb4.cell (p := ⟨U3.heap.size, 2, none⟩) qz).trans q2
  have BY4 := Lib.hid (BY.out.next hb4)
  have HA4 := Lib.hid (HA.out.next hb4)
  have HT4 := Lib.hid (HT.out.next hb4)
  have HD4 := Lib.hid (HDV.out.next hb4)
  have HB4 := Lib.hid (below_next HBV.out (Nat.le_refl _) hb4)
  have HN4 := Lib.hid n2
  have hoo : okO (100 + om) = true := okO_yes (by omega)
  have hbb : okB bm = true := okB_yes ⟨bm0, bm1⟩
  have hno : ∀ j, j < m → (F j).ow ≠ 100 + om := fun j _ e => by have := HOW.out j; omega
  have hany : anyB F (100 + om) (bm * 4294967296 + (100 + om)) m = false := by
    cases e : anyB F (100 + om) (bm * 4294967296 + (100 + om)) m
    · rfl
    · obtain ⟨f, x1, x2, _⟩ := (anyB_iff F _ _ m).1 e
      exact absurd x2 (hno f x1)
  have hvo : (validB k mk wd m F && okO (100 + om) && okB bm) = true := by rw [validB_yes HVP.out, hoo, hbb]; rfl
  have HNO := Lib.hid hno
  have HOO := Lib.hid hoo
  have HBB := Lib.hid hbb
  clear q0 q1 q2 qz BY HA HT HDV HBV hb4 n2 hno hoo hbb
  by_cases hc0 : cn = 0
  · have N := Lib.hid (show ∀ W, Below U4.heap.size U4 W → Calls Tryd.prog 18 #[.agg #[.int .i64 k, .slice B mk d, .slice (some ⟨gb, 0, none⟩) m d'], .int .i64 (100 + om), .int .i64 bm] W (GivesSp 0 0 0 (fun _ => 0) (fun _ => frFree) 0 4 W) from
      fun W hW => (take_any k B _ mk d m d' wd F (100 + om) bm W (HA4.out.next hW) (HT4.out.next hW) (HD4.out.next hW)).mono (fun e w' h => h.err (by unfold takeE; rw [if_neg (by rw [hvo]; decide), if_neg (by rw [hany]; decide), if_pos (by rw [← HCN.out]; exact hc0)]) (by decide)))
    have HC0 := Lib.hid hc0
    clear hany hvo hc0
    go_cut [11, 12, 13] (fun v f e wx => f = .int .i64 0 ∧ e = .int .i64 4 ∧ SpBox U4 0 0 0 (fun _ => 0) (fun _ => frFree) v wx)
    case first =>
      have y0d : U4.drew.cell? ⟨U3.heap.size, 0, none⟩ = some (.int .i64 k) := y0
      have y0a : (U4.alloc (.cells #[.int .i64 0, .slice none 0 0, .slice none 0 0] 26)).drew.cell? ⟨U3.heap.size, 0, none⟩ = some (.int .i64 k) := (((Below.refl _ U4).alloc (Nat.le_refl _) (.cells #[.int .i64 0, .slice none 0 0, .slice none 0 0] 26)).cell (p := ⟨U3.heap.size, 0, none⟩) zq).trans y0
      have y1d : U4.drew.cell? ⟨U3.heap.size, 1, none⟩ = some (.slice B mk d) := y1
      have y1a : (U4.alloc (.cells #[.int .i64 0, .slice none 0 0, .slice none 0 0] 26)).drew.cell? ⟨U3.heap.size, 1, none⟩ = some (.slice B mk d) := (((Below.refl _ U4).alloc (Nat.le_refl _) (.cells #[.int .i64 0, .slice none 0 0, .slice none 0 0] 26)).cell (p := ⟨U3.heap.size, 1, none⟩) zq).trans y1
      have y2d : U4.drew.cell? ⟨U3.heap.size, 2, none⟩ = some (.slice (some ⟨gb, 0, none⟩) m d') := y2
      have y2a : (U4.alloc (.cells #[.int .i64 0, .slice none 0 0, .slice none 0 0] 26)).drew.cell? ⟨U3.heap.size, 2, none⟩ = some (.slice (some ⟨gb, 0, none⟩) m d') := (((Below.refl _ U4).alloc (Nat.le_refl _) (.cells #[.int .i64 0, .slice none 0 0, .slice none 0 0] 26)).cell (p := ⟨U3.heap.size, 2, none⟩) zq).trans y2
      have HBBH := Lib.hid (show Blk (U4.alloc (.cells #[.int .i64 0, .slice none 0 0, .slice none 0 0] 26)).drew U4.heap.size 26 #[.int .i64 0, .slice none 0 0, .slice none 0 0] from Blk.new _ _ _)
      have HUAH := Lib.hid (show Below U4.heap.size U4 (U4.alloc (.cells #[.int .i64 0, .slice none 0 0, .slice none 0 0] 26)).drew from ((Below.refl _ _).alloc (Nat.le_refl _) _).drew)
      have HUDH := Lib.hid (show Below U4.heap.size U4 U4.drew from (Below.refl _ _).drew)
      go_region_held3 (fun w' => w'.cell? ⟨U3.heap.size, 0, none⟩ = some (.int .i64 k) ∧ w'.cell? ⟨U3.heap.size, 1, none⟩ = some (.slice B mk d) ∧ w'.cell? ⟨U3.heap.size, 2, none⟩ = some (.slice (some ⟨gb, 0, none⟩) m d'))
        (first | (with_reducible exact ⟨y0d, y1d, y2d⟩) | (with_reducible exact ⟨u0, u1, u2⟩) | (with_reducible exact ⟨y0a, y1a, y2a⟩) | (with_reducible exact ⟨(cell_far3 (Nat.ne_of_lt zq) _ _ _).trans u0, (cell_far3 (Nat.ne_of_lt zq) _ _ _).trans u1, (cell_far3 (Nat.ne_of_lt zq) _ _ _).trans u2⟩) | go_keep)
        (first
          | (go_at_call 17; refine (mod_any bt 4 (by omega) (by omega) b0 b1 _).mono ?_; rintro e w' ⟨rfl, rfl⟩; rw [HBM.out])
          | (go_at_call 18; refine (N.out _ (by first | (with_reducible exact HUDH.out) | (with_reducible exact HUAH.out))).mono ?_; rintro e wn ⟨RA, rc, RA', rc', rfl, ho, ht, hb⟩; have u0 : wn.cell? ⟨U3.heap.size, 0, none⟩ = some (.int .i64 k) := (hb.cell (p := ⟨U3.heap.size, 0, none⟩) (by simp; omega)).trans (by first | (with_reducible exact y0d) | (with_reducible exact y0a)); have u1 : wn.cell? ⟨U3.heap.size, 1, none⟩ = some (.slice B mk d) := (hb.cell (p := ⟨U3.heap.size, 1, none⟩) (by simp; omega)).trans (by first | (with_reducible exact y1d) | (with_reducible exact y1a)); have u2 : wn.cell? ⟨U3.heap.size, 2, none⟩ = some (.slice (some ⟨gb, 0, none⟩) m d') := (hb.cell (p := ⟨U3.heap.size, 2, none⟩) (by simp; omega)).trans (by first | (with_reducible exact y2d) | (with_reducible exact y2a)); (try have bb : Blk wn U4.heap.size 26 #[.int .i64 0, .slice none 0 0, .slice none 0 0] := (by with_reducible exact HBBH.out.next hb)); (try have bz := bb.lt); (try have t0 := bb.cell 0); (try have t1 := bb.cell 1); (try have t2 := bb.cell 2); (try have t3 := bb.frozen 0); (try have t4 := bb.frozen 1); (try have t5 := bb.frozen 2); (try simp at t0 t1 t2)))
      all_goals
        first
        | (have HBX := Lib.hid (spbox_early (s := 0) (Nat.le_refl _) HUAH.out hb bb (by simp) rfl ho ht); clear hb ho ht bb t0 t1 t2 t3 t4 t5; go_wp2; go_meet; exact ⟨rfl, rfl, HBX.out⟩)
        | (have HBX := Lib.hid (spbox_late (s := 0) HUDH.out hb ho ht); clear hb ho ht; go_wp2; go_meet; exact ⟨rfl, rfl, HBX.out⟩)
    case rest =>
      obtain ⟨rfl, rfl, x1, B1, d1, B2, d2, rfl, hx1, ha1, ht1, hb1, _⟩ := hcut
      have HB5 := Lib.hid (below_next HB4.out (Nat.le_refl _) hb1)
      have HD5 := Lib.hid (HD4.out.next hb1)
      rw [HC0.out]
      clear hx1 ha1 ht1 hb1 y0 y1 y2
      go_wp2_with (go_at_call 14; refine (awake4_any _ HD5.out).mono ?_; rintro e w6 ⟨rfl, hb6⟩)
      go_ret
      exact ⟨rfl, below_next HB5.out (Nat.le_refl _) hb6⟩
  · have hcc : cntP (owB F (-1)) m ≠ 0 := by rw [← HCN.out]; exact hc0
    obtain ⟨f, hl, _⟩ := least_of (show m ≤ 64 by omega) hcc
    have hfr : F f = frFree := HVP.out.fv.free hl.1 hl.2.1
    have hte : takeE k mk wd m F (100 + om) bm = 0 := take_ok hvo hany hcc
    have N := Lib.hid (show ∀ W, Below U4.heap.size U4 W → Calls Tryd.prog 18 #[.agg #[.int .i64 k, .slice B mk d, .slice (some ⟨gb, 0, none⟩) m d'], .int .i64 (100 + om), .int .i64 bm] W (GivesSp k mk m wd (lift F f (100 + om) (bm * 4294967296 + (100 + om))) f 0 W) from
      fun W hW => (take_any k B _ mk d m d' wd F (100 + om) bm W (HA4.out.next hW) (HT4.out.next hW) (HD4.out.next hW)).mono (fun e w' h => (h.yes hte hl).gives))
    have hce : ((cn : Int) == 0) = false := by simpa using hc0
    have hcpos : 0 < cn := by omega
    have hvl := valid_lift HVP.out hl HOO.out HBB.out
    have hcl := cnt_lift (F := F) (n := m) (f := f) (o := 100 + om) (s := bm * 4294967296 + (100 + om)) hl (by omega)
    have hc1 := cnt_one (F := F) (n := m) (f := f) (o := 100 + om) (s := bm * 4294967296 + (100 + om)) hl.1 HNO.out
    have hff := first_free hl
    obtain ⟨nb, no, e, hnb, hnc⟩ := HN4.out.at_ 0 hcpos
    rw [hff] at hnc
    subst e
    have hlt0 : (0 : Int) < cn := by omega
    have HL := Lib.hid hl
    have HFR := Lib.hid hfr
    have HVL := Lib.hid hvl
    have HC1 := Lib.hid hc1
    have HCL := Lib.hid hcl
    have HNC := Lib.hid hnc
    have hfm := hl.1
    clear hany hvo hc0 hcc hl hfr hte hvl hcl hc1 hff hnc
    go_cut [11, 12, 13] (fun v f' e wx => f' = .int .i64 f ∧ e = .int .i64 0 ∧ SpBox U4 k mk m wd (lift F f (100 + om) (bm * 4294967296 + (100 + om))) v wx)
    case first =>
      have y0d : U4.drew.cell? ⟨U3.heap.size, 0, none⟩ = some (.int .i64 k) := y0
      have y0a : (U4.alloc (.cells #[.int .i64 0, .slice none 0 0, .slice none 0 0] 26)).drew.cell? ⟨U3.heap.size, 0, none⟩ = some (.int .i64 k) := (((Below.refl _ U4).alloc (Nat.le_refl _) (.cells #[.int .i64 0, .slice none 0 0, .slice none 0 0] 26)).cell (p := ⟨U3.heap.size, 0, none⟩) zq).trans y0
      have y1d : U4.drew.cell? ⟨U3.heap.size, 1, none⟩ = some (.slice B mk d) := y1
      have y1a : (U4.alloc (.cells #[.int .i64 0, .slice none 0 0, .slice none 0 0] 26)).drew.cell? ⟨U3.heap.size, 1, none⟩ = some (.slice B mk d) := (((Below.refl _ U4).alloc (Nat.le_refl _) (.cells #[.int .i64 0, .slice none 0 0, .slice none 0 0] 26)).cell (p := ⟨U3.heap.size, 1, none⟩) zq).trans y1
      have y2d : U4.drew.cell? ⟨U3.heap.size, 2, none⟩ = some (.slice (some ⟨gb, 0, none⟩) m d') := y2
      have y2a : (U4.alloc (.cells #[.int .i64 0, .slice none 0 0, .slice none 0 0] 26)).drew.cell? ⟨U3.heap.size, 2, none⟩ = some (.slice (some ⟨gb, 0, none⟩) m d') := (((Below.refl _ U4).alloc (Nat.le_refl _) (.cells #[.int .i64 0, .slice none 0 0, .slice none 0 0] 26)).cell (p := ⟨U3.heap.size, 2, none⟩) zq).trans y2
      have HBBH := Lib.hid (show Blk (U4.alloc (.cells #[.int .i64 0, .slice none 0 0, .slice none 0 0] 26)).drew U4.heap.size 26 #[.int .i64 0, .slice none 0 0, .slice none 0 0] from Blk.new _ _ _)
      have HUAH := Lib.hid (show Below U4.heap.size U4 (U4.alloc (.cells #[.int .i64 0, .slice none 0 0, .slice none 0 0] 26)).drew from ((Below.refl _ _).alloc (Nat.le_refl _) _).drew)
      have HUDH := Lib.hid (show Below U4.heap.size U4 U4.drew from (Below.refl _ _).drew)
      go_region_held3 (fun w' => w'.cell? ⟨U3.heap.size, 0, none⟩ = some (.int .i64 k) ∧ w'.cell? ⟨U3.heap.size, 1, none⟩ = some (.slice B mk d) ∧ w'.cell? ⟨U3.heap.size, 2, none⟩ = some (.slice (some ⟨gb, 0, none⟩) m d'))
        (first | (with_reducible exact ⟨y0d, y1d, y2d⟩) | (with_reducible exact ⟨u0, u1, u2⟩) | (with_reducible exact ⟨y0a, y1a, y2a⟩) | (with_reducible exact ⟨(cell_far3 (Nat.ne_of_lt zq) _ _ _).trans u0, (cell_far3 (Nat.ne_of_lt zq) _ _ _).trans u1, (cell_far3 (Nat.ne_of_lt zq) _ _ _).trans u2⟩) | go_keep)
        (first
          | (go_at_call 17; refine (mod_any bt 4 (by omega) (by omega) b0 b1 _).mono ?_; rintro e w' ⟨rfl, rfl⟩; rw [HBM.out])
          | (go_at_call 18; refine (N.out _ (by first | (with_reducible exact HUDH.out) | (with_reducible exact HUAH.out))).mono ?_; rintro e wn ⟨RA, rc, RA', rc', rfl, ho, ht, hb⟩; have u0 : wn.cell? ⟨U3.heap.size, 0, none⟩ = some (.int .i64 k) := (hb.cell (p := ⟨U3.heap.size, 0, none⟩) (by simp; omega)).trans (by first | (with_reducible exact y0d) | (with_reducible exact y0a)); have u1 : wn.cell? ⟨U3.heap.size, 1, none⟩ = some (.slice B mk d) := (hb.cell (p := ⟨U3.heap.size, 1, none⟩) (by simp; omega)).trans (by first | (with_reducible exact y1d) | (with_reducible exact y1a)); have u2 : wn.cell? ⟨U3.heap.size, 2, none⟩ = some (.slice (some ⟨gb, 0, none⟩) m d') := (hb.cell (p := ⟨U3.heap.size, 2, none⟩) (by simp; omega)).trans (by first | (with_reducible exact y2d) | (with_reducible exact y2a)); (try have bb : Blk wn U4.heap.size 26 #[.int .i64 0, .slice none 0 0, .slice none 0 0] := (by with_reducible exact HBBH.out.next hb)); (try have bz := bb.lt); (try have t0 := bb.cell 0); (try have t1 := bb.cell 1); (try have t2 := bb.cell 2); (try have t3 := bb.frozen 0); (try have t4 := bb.frozen 1); (try have t5 := bb.frozen 2); (try simp at t0 t1 t2)))
      all_goals
        first
        | (have HBX := Lib.hid (spbox_early (s := (k : Int)) (Nat.le_refl _) HUAH.out hb bb (by simp) rfl ho ht); clear hb ho ht bb t0 t1 t2 t3 t4 t5; go_wp2; go_meet; exact ⟨rfl, rfl, HBX.out⟩)
        | (have HBX := Lib.hid (spbox_late (s := (k : Int)) HUDH.out hb ho ht); clear hb ho ht; go_wp2; go_meet; exact ⟨rfl, rfl, HBX.out⟩)
    case rest =>
      obtain ⟨rfl, rfl, x1, B1, d1, B2, d2, rfl, hx1, ha1, ht1, hb1, hbx⟩ := hcut
      obtain ⟨W1, rfl⟩ : ∃ W1, W1 = wc := ⟨_, rfl⟩
      have zu := hb1.size
      have zs : U3.heap.size < W1.drew.heap.size := Nat.lt_of_lt_of_le zq hb1.size
      have zx : x1 < W1.drew.heap.size := hx1.lt
      have zn : nb < W1.drew.heap.size := Nat.lt_of_lt_of_le hnb hb1.size
      have p0 : W1.drew.cell? ⟨U3.heap.size, 0, none⟩ = some (.int .i64 k) := (hb1.cell (p := ⟨U3.heap.size, 0, none⟩) zq).trans y0
      have p1 : W1.drew.cell? ⟨U3.heap.size, 1, none⟩ = some (.slice B mk d) := (hb1.cell (p := ⟨U3.heap.size, 1, none⟩) zq).trans y1
      have p2 : W1.drew.cell? ⟨U3.heap.size, 2, none⟩ = some (.slice (some ⟨gb, 0, none⟩) m d') := (hb1.cell (p := ⟨U3.heap.size, 2, none⟩) zq).trans y2
      have r0 : W1.drew.cell? ⟨x1, 0, none⟩ = some (.int .i64 k) := hx1.cell 0
      have r1 : W1.drew.cell? ⟨x1, 1, none⟩ = some (.slice B1 mk d1) := hx1.cell 1
      have r2 : W1.drew.cell? ⟨x1, 2, none⟩ = some (.slice B2 m d2) := hx1.cell 2
      have nc : W1.drew.cell? ⟨nb, no, none⟩ = some (.int .i64 f) := (hb1.cell (p := ⟨nb, no, none⟩) hnb).trans HNC.out
      have HA5 := Lib.hid (show Arr W1.drew W1.drew.heap.size B mk d wd from (show Arr W1 W1.heap.size B mk d wd from HA4.out.next hb1))
      have HT5 := Lib.hid (show Tab W1.drew W1.drew.heap.size (some ⟨gb, 0, none⟩) m d' F from (show Tab W1 W1.heap.size (some ⟨gb, 0, none⟩) m d' F from HT4.out.next hb1))
      have HAX := Lib.hid (show Arr W1.drew W1.drew.heap.size B1 mk d1 wd from ha1)
      have HTX := Lib.hid (show Tab W1.drew W1.drew.heap.size B2 m d2 (lift F f (100 + om) (bm * 4294967296 + (100 + om))) from ht1)
      have HD5 := Lib.hid (show Db W1.drew from (show Db W1 from HD4.out.next hb1))
      have HB5 := Lib.hid (show Below w.heap.size w W1.drew from (below_next HB4.out (Nat.le_refl _) hb1).drew)
      have hc : Below W1.drew.heap.size W1.drew W1.drew := Below.refl _ _
      obtain ⟨cv, hcv⟩ : ∃ cv, cv = m - cntP (owB (lift F f (100 + om) (bm * 4294967296 + (100 + om))) (-1)) m := ⟨_, rfl⟩
      have hs2 : IntKind.i64.wrap (((m - cn : Nat) : Int) + 1) = (cv : Int) := by
        have := HCL.out
        rw [← HCN.out] at this
        rw [IntKind.wrap_i64]
        omega
      have HCV := Lib.hid hcv
      have HVX := Lib.hid (validB_yes HVL.out)
      clear hx1 ha1 ht1 hb1 y0 y1 y2 hcv
      go_upto_region 7 with fail
      go_region_held3 (fun w' => w'.cell? ⟨U3.heap.size, 0, none⟩ = some (.int .i64 k) ∧ w'.cell? ⟨U3.heap.size, 1, none⟩ = some (.slice B mk d) ∧ w'.cell? ⟨U3.heap.size, 2, none⟩ = some (.slice (some ⟨gb, 0, none⟩) m d') ∧ w'.cell? ⟨x1, 0, none⟩ = some (.int .i64 k) ∧ w'.cell? ⟨x1, 1, none⟩ = some (.slice B1 mk d1) ∧ w'.cell? ⟨x1, 2, none⟩ = some (.slice B2 m d2) ∧ w'.cell? ⟨nb, no, none⟩ = some (.int .i64 f))
        (first | exact ⟨p0, p1, p2, r0, r1, r2, nc⟩ | exact ⟨(hc.cell (p := ⟨_, 0, none⟩) zs).trans p0, (hc.cell (p := ⟨_, 1, none⟩) zs).trans p1, (hc.cell (p := ⟨_, 2, none⟩) zs).trans p2, (hc.cell (p := ⟨_, 0, none⟩) zx).trans r0, (hc.cell (p := ⟨_, 1, none⟩) zx).trans r1, (hc.cell (p := ⟨_, 2, none⟩) zx).trans r2, (hc.cell (p := ⟨_, _, none⟩) zn).trans nc⟩ | go_keep)
        (first
          | (go_at_call 23; refine (refValid_any k B1 B2 mk d1 m d2 wd _ _ (HAX.out.next hc) (HTX.out.next hc)).mono ?_; rintro e wq ⟨rfl, hb⟩; rw [HVX.out]; have hc := below_next hc (Nat.le_refl _) hb)
          | (go_at_call 12; (with_reducible show Calls Tryd.prog _ #[.agg #[.int .i64 k, .slice B1 mk d1, .slice B2 m d2]] _ _); refine (used_any k _ B2 m d2 _ _ (HTX.out.next hc) (by omega)).mono ?_; rintro e wq ⟨rfl, hb⟩; rw [← HCV.out]; have hc := below_next hc (Nat.le_refl _) hb)
          | (go_at_call 12; (with_reducible show Calls Tryd.prog _ #[.agg #[.int .i64 k, .slice B mk d, .slice (some ⟨gb, 0, none⟩) m d']] _ _); refine (used_any k _ (some ⟨gb, 0, none⟩) m d' F _ (HT5.out.next hc) (by omega)).mono ?_; rintro e wq ⟨rfl, hb⟩; rw [← HCN.out]; have hc := below_next hc (Nat.le_refl _) hb))
      have P0 := Lib.hid ((hc.cell (p := ⟨U3.heap.size, 0, none⟩) zs).trans p0)
      have P1 := Lib.hid ((hc.cell (p := ⟨U3.heap.size, 1, none⟩) zs).trans p1)
      have P2 := Lib.hid ((hc.cell (p := ⟨U3.heap.size, 2, none⟩) zs).trans p2)
      have R0 := (hc.cell (p := ⟨x1, 0, none⟩) zx).trans r0
      have R1 := (hc.cell (p := ⟨x1, 1, none⟩) zx).trans r1
      have R2 := (hc.cell (p := ⟨x1, 2, none⟩) zx).trans r2
      have ZS : U3.heap.size < wq.heap.size := Nat.lt_of_lt_of_le zs hc.size
      have HA6 := Lib.hid (HA5.out.next hc)
      have HT6 := Lib.hid (HT5.out.next hc)
      have HAX6 := Lib.hid (HAX.out.next hc)
      have HTX6 := Lib.hid (HTX.out.next hc)
      have HD6 := Lib.hid (HD5.out.next hc)
      have HB6 := Lib.hid (below_next HB5.out (Nat.le_refl _) hc)
      clear p0 p1 p2 r0 r1 r2 nc hc hs2
      go_upto_region 10 with (go_at_call 21; refine ((give_any k B1 B2 mk d1 m d2 wd _ (100 + om) _ HAX6.out HTX6.out HD6.out).mono (fun e w' h => h.yes HVL.out HOO.out HC1.out (by decide))).mono ?_; rintro e wg ⟨G1, g1, g2, g3, rfl, ho, ht, hb⟩)
      obtain ⟨Z, hZ⟩ : ∃ Z, Z = wg.alloc (.cells #[.int .i64 k, .slice G1 mk g1, .slice (some ⟨g2, 0, none⟩) m g3] 26) := ⟨_, rfl⟩
      have hbz : Below wg.heap.size wg Z := by rw [hZ]; exact (Below.refl _ _).alloc (Nat.le_refl _) _
      have BG := Lib.hid (show Blk Z wg.heap.size 26 #[.int .i64 k, .slice G1 mk g1, .slice (some ⟨g2, 0, none⟩) m g3] by rw [hZ]; exact Blk.new _ _ _)
      have HGA := Lib.hid (((ho.congr (fun a ha => back_W HVP.out HFR.out hfm HNO.out a ha)).arr).next hbz)
      have HGT := Lib.hid (((ht.congr (fun j hj => back_F HFR.out HNO.out j hj)).tab).next hbz)
      have hqz := below_next hb (Nat.le_refl _) hbz
      have HA7 := Lib.hid (HA6.out.next hqz)
      have HT7 := Lib.hid (HT6.out.next hqz)
      have HB7 := Lib.hid (below_next HB6.out (Nat.le_refl _) hqz)
      have p0 := (hqz.cell (p := ⟨U3.heap.size, 0, none⟩) ZS).trans P0.out
      have p1 := (hqz.cell (p := ⟨U3.heap.size, 1, none⟩) ZS).trans P1.out
      have p2 := (hqz.cell (p := ⟨U3.heap.size, 2, none⟩) ZS).trans P2.out
      have r0 := BG.out.cell 0
      have r1 := BG.out.cell 1
      have r2 := BG.out.cell 2
      have zz := BG.out.lt
      have zs' : U3.heap.size < Z.heap.size := Nat.lt_of_lt_of_le ZS hqz.size
      have HZ := Lib.hid hZ
      simp at r0 r1 r2
      clear hZ hbz ho ht hb hqz R0 R1 R2
      rw [← HZ.out]
      go_wp2_with (go_at_call 20; refine (sameSp_yes k G1 _ B _ mk g1 d m g3 d' wd F Z HGA.out HA7.out HGT.out HT7.out (by omega) (by omega)).mono ?_; rintro e w8 ⟨rfl, hb8⟩)
      go_ret
      exact ⟨rfl, below_next HB7.out (Nat.le_refl _) hb8⟩
end Go.Proofs.YtpjhgdgdckndeaaDoor
