/-
  Contract of the reference's Link.
-/
import Derived.Test.YtpbcpobbjoopnaaLnk
import Derived.RegionTactic
namespace Go.Proofs.Ytpbcpobbjoopnaa
open Go.RowKit
set_option maxRecDepth 100000
set_option linter.unusedVariables false

section
variable {F : Nat → Fr} {n : Nat}
theorem path_snoc : ∀ (q : Nat) (f : Int), (∀ i, i ≤ q → iter F i f ≠ -1) → path F (q + 1) f = path F q f ++ [(iter F q f).toNat]
  | 0, f, h => by
    have e : f ≠ -1 := by simpa only [iter] using h 0 (Nat.le_refl _)
    simp only [path, if_neg e, List.nil_append, iter]
  | q + 1, f, h => by
    have e : f ≠ -1 := by simpa only [iter] using h 0 (by omega)
    have ih := path_snoc q (F f.toNat).nx (fun i hi => by simpa only [iter, if_neg e] using h (i + 1) (by omega))
    rw [show path F (q + 1 + 1) f = f.toNat :: path F (q + 1) (F f.toNat).nx by simp only [path, if_neg e], ih]
    simp only [path, if_neg e, List.cons_append, iter]
theorem path_stop : ∀ (m M : Nat) (f : Int), m ≤ M → LenP F f m → path F M f = path F m f
  | 0, M, f, _, h => by
    have e : f = -1 := by simpa only [iter] using h.1
    subst e
    rw [path_none, path_none]
  | m + 1, 0, f, hm, _ => absurd hm (by omega)
  | m + 1, M + 1, f, hm, h => by
    have e : f ≠ -1 := by simpa only [iter] using h.2 0 (by omega)
    have ih := path_stop m M (F f.toNat).nx (by omega) ⟨by simpa only [iter, if_neg e] using h.1, fun i hi => by simpa only [iter, if_neg e] using h.2 (i + 1) (by omega)⟩
    simp only [path, if_neg e, ih]
/-- What the reference looks at first. -/
def bad0 (F : Nat → Fr) (l f : Nat) : Bool := (((((F l).ow == -1) || ((F f).ow == -1)) || ((F l).st != (F f).st)) || ((F l).nx != -1)) || ((f : Int) == (l : Int))
theorem bad0_all {l f : Nat} (h : FV F n) (hl : l < n) (hf : f < n) : (bad0 F l f || fol F n f || decide (l ∈ chL F n f)) = lnkB F n l f := by
  by_cases h1 : (F l).ow = -1
  · rw [lnkB_of1 h1]; simp [bad0, h1]
  · by_cases h2 : (F l).st = (F f).st
    · by_cases h3 : (F l).nx = -1
      · cases h4 : fol F n f with
        | true => rw [lnkB_of4 h4]; simp
        | false =>
          rw [lnkB_rest h1 h2 h3 h4]
          have h5 : (F f).ow ≠ -1 := by
            intro e
            have h6 := h.free hf e
            have h7 := stB_yes (ownB_yes (h.own hl h1)).1
            rw [h2, h6] at h7
            have : (frFree.st : Int) = -1 := rfl
            omega
          by_cases h8 : f = l
          · have h9 : l ∈ chL F n f := by
              rw [mem_chL h hf]
              exact ⟨0, by omega, by simp only [iter]; omega⟩
            simp [h9]
          · simp [bad0, h1, h2, h3, h5]
            omega
      · rw [lnkB_of3 h3]; simp [bad0, h3]
    · rw [lnkB_of2 h2]; simp [bad0, h2]
end

theorem lenP_inj {F : Nat → Fr} {p : Int} {m i j : Nat} (h : LenP F p m) (hij : i < j) (hj : j < m) : iter F i p ≠ iter F j p := by
  intro e
  have h1 : iter F (j + (m - j)) p = -1 := by rw [show j + (m - j) = m by omega]; exact h.1
  rw [iter_add, ← e, ← iter_add] at h1
  exact h.2 (i + (m - j)) (by omega) h1
theorem own_set1 {w : World} {base base' nw c n c2 g i : Nat} {A : Option Addr} {wd : Nat → Int} {F : Nat → Fr} (h : Own w base A nw c wd) (hT : OwnT w base' (some ⟨g, 0, none⟩) n c2 F) (u : Value) : Own (w.setCell ⟨g, i, none⟩ u) base A nw c wd := by
  rcases A with _ | y
  · obtain ⟨h2, h3, h4 | ⟨_, _, h4, _⟩⟩ := h
    · exact ⟨h2, h3, .inl h4⟩
    · cases h4
  · obtain ⟨h2, h3, h4 | ⟨x, cur, h4, h5⟩⟩ := h
    · cases h4.1
    · injection h4 with h4
      subst h4
      exact Own.apart (p := ⟨g, i, none⟩) ⟨h2, h3, .inr ⟨x, cur, rfl, h5⟩⟩ (own_apart ⟨h2, h3, .inr ⟨x, cur, rfl, h5⟩⟩ hT) _
/-- How many frames of a chain of m frames are still to come. -/
noncomputable def leftP (F : Nat → Fr) (n p m : Nat) (g : Int) : Nat := if g = -1 then 0 else m - (chL F n p).idxOf g.toNat
theorem leftP_end {F : Nat → Fr} {n p m : Nat} : leftP F n p m (-1) = 0 := if_pos rfl
theorem leftP_at {F : Nat → Fr} {n p m q : Nat} (h : FV F n) (hp : p < n) (hl : LenP F p m) (hq : q < m) : leftP F n p m (iter F q p) = m - q := by
  have h1 := h.nonneg hp (hl.2 q hq)
  have h2 := chL_index h hp hl hq (x := (iter F q p).toNat) (by omega) (fun i hi => by
    have h3 := lenP_inj hl hi hq
    omega)
  unfold leftP
  rw [if_neg (by omega), h2]

/-- Two boxes of frames, apart. -/
def TwoFr (R : World) (x y : Fr) (v u : Value) (W : World) : Prop := ∃ a b : Nat, v = .pointer (some ⟨a, 0, none⟩) ∧ u = .pointer (some ⟨b, 0, none⟩) ∧ Blk W a 64 #[.int .i64 x.ow, .int .i64 x.st, .int .i64 x.nx] ∧ Blk W b 64 #[.int .i64 y.ow, .int .i64 y.st, .int .i64 y.nx] ∧ Below R.heap.size R W

set_option maxHeartbeats 8000000 in
theorem refLink5_any (s : Int) (A A' : Option Addr) (nw c n c' : Nat) (wd : Nat → Int) (F : Nat → Fr) (last f : Int) (w : World) (hA : Arr w w.heap.size A nw c wd) (hT : Tab w w.heap.size A' n c' F) :
    Calls Try.prog 16 #[.agg #[.int .i64 s, .slice A nw c, .slice A' n c'], .int .i64 last, .int .i64 f] w (LnkOut s nw wd n F last f w) := by
  obtain ⟨U, hU⟩ : ∃ U, U = (w.alloc (.cells #[.int .i64 s, .slice A nw c, .slice A' n c'] 25)).alloc (.cells #[.int .i64 0, .slice none 0 0, .slice none 0 0] 25) := ⟨_, rfl⟩
  have BX := Lib.hid (show Blk U w.heap.size 25 #[.int .i64 s, .slice A nw c, .slice A' n c'] by rw [hU]; exact (Blk.new _ _ _).alloc _)
  have BR := Lib.hid (show Blk U (w.heap.size + 1) 25 #[.int .i64 0, .slice none 0 0, .slice none 0 0] by rw [hU]; exact Blk.newAt _ _ _ _ (by simp))
  have hbu : Below w.heap.size w U := by rw [hU]; exact ((Below.refl _ _).alloc (Nat.le_refl _) _).alloc (by simp) _
  have HBU := Lib.hid hbu
  have HU := Lib.hid hU
  have HA := Lib.hid (hA.next hbu)
  have HT := Lib.hid (hT.next hbu)
  clear hA hT hU hbu
  cases hv : validB s nw wd n F with
  | false =>
    have HV := Lib.hid hv
    clear hv
    go_enter Try.func16, Try.ntmps16
    go_wp2_with (go_at_call 28; rw [← HU.out]; refine (refValid_any s A A' nw c n c' wd F U HA.out HT.out).mono ?_; rintro e w1 ⟨rfl, hb1⟩; rw [HV.out]; have R := BR.out.next hb1; have r0 := R.cell 0; have r1 := R.cell 1; have r2 := R.cell 2; have f0 := R.frozen 0; have f1 := R.frozen 1; have f2 := R.frozen 2; have rz := R.lt; simp at r0 r1 r2)
    refine bodyPost_ret (v := .tuple #[.agg #[.int .i64 0, .slice none 0 0, .slice none 0 0], .int .i64 1]) (by simp [results, Try.results16, go_sem, r0, r1, r2]) rfl (lnk_bad HV.out (below_put3 (below_next HBU.out (Nat.le_refl _) hb1) (by omega) _ _ _))
  | true =>
    have hvp := validB_of hv
    have HV := Lib.hid hv
    cases hl : inB n last with
    | false =>
      have HL := Lib.hid hl
      clear hl hv hvp
      go_enter Try.func16, Try.ntmps16
      go_wp2_with (first
        | (go_at_call 28; rw [← HU.out]; refine (refValid_any s A A' nw c n c' wd F U HA.out HT.out).mono ?_; rintro e w1 ⟨rfl, hb1⟩; rw [HV.out]; have X := BX.out.next hb1; have x0 := X.cell 0; have x1 := X.cell 1; have x2 := X.cell 2; have xz := X.lt; simp at x0 x1 x2)
        | (go_at_call 35; refine (outside_any s _ A' n c' last _).mono ?_; rintro e w2 ⟨rfl, hb2⟩; rw [HL.out]; have R := BR.out.next (below_next hb1 (Nat.le_refl _) hb2); have r0 := R.cell 0; have r1 := R.cell 1; have r2 := R.cell 2; have f0 := R.frozen 0; have f1 := R.frozen 1; have f2 := R.frozen 2; have rz := R.lt; simp at r0 r1 r2))
      refine bodyPost_ret (v := .tuple #[.agg #[.int .i64 0, .slice none 0 0, .slice none 0 0], .int .i64 2]) (by simp [results, Try.results16, go_sem, r0, r1, r2]) rfl (lnk_out HV.out (.inl HL.out) (below_put3 (below_next HBU.out (Nat.le_refl _) (below_next hb1 (Nat.le_refl _) hb2)) (by omega) _ _ _))
    | true =>
      have HL := Lib.hid hl
      cases hf : inB n f with
      | false =>
        have HF := Lib.hid hf
        clear hl hf hv hvp
        go_enter Try.func16, Try.ntmps16
        go_wp2_with (first
          | (go_at_call 28; rw [← HU.out]; refine (refValid_any s A A' nw c n c' wd F U HA.out HT.out).mono ?_; rintro e w1 ⟨rfl, hb1⟩; rw [HV.out]; have X := BX.out.next hb1; have x0 := X.cell 0; have x1 := X.cell 1; have x2 := X.cell 2; have xz := X.lt; simp at x0 x1 x2; have HX := Lib.hid X; have HB1 := Lib.hid hb1; clear hb1 X)
          | (go_at_call 35; (with_reducible show Calls _ _ #[_, .int .i64 last] w1 _); refine (outside_any s _ A' n c' last _).mono ?_; rintro e w2 ⟨rfl, hb2⟩; rw [HL.out]; have Y := HX.out.next hb2; have y0 := Y.cell 0; have y1 := Y.cell 1; have y2 := Y.cell 2; have yz := Y.lt; simp at y0 y1 y2; have HB2 := Lib.hid (below_next HB1.out (Nat.le_refl _) hb2); clear hb2 Y)
          | (go_at_call 35; (with_reducible show Calls _ _ #[_, .int .i64 f] w2 _); refine (outside_any s _ A' n c' f _).mono ?_; rintro e w3 ⟨rfl, hb3⟩; rw [HF.out]; have R := BR.out.next (below_next HB2.out (Nat.le_refl _) hb3); have r0 := R.cell 0; have r1 := R.cell 1; have r2 := R.cell 2; have f0 := R.frozen 0; have f1 := R.frozen 1; have f2 := R.frozen 2; have rz := R.lt; simp at r0 r1 r2))
        refine bodyPost_ret (v := .tuple #[.agg #[.int .i64 0, .slice none 0 0, .slice none 0 0], .int .i64 2]) (by simp [results, Try.results16, go_sem, r0, r1, r2]) rfl (lnk_out HV.out (.inr HF.out) (below_put3 (below_next HBU.out (Nat.le_refl _) (below_next HB2.out (Nat.le_refl _) hb3)) (by omega) _ _ _))
      | true =>
        have HF := Lib.hid hf
        obtain ⟨l, rfl, hln⟩ := inB_nat hl
        obtain ⟨g0, rfl, hgn⟩ := inB_nat hf
        obtain ⟨n0, n64⟩ := nfB_yes hvp.2.1
        obtain ⟨nz, _, w0, w20⟩ := take_bounds hvp
        have HFV := Lib.hid hvp.fv
        have hl2 : 0 ≤ (l : Int) ∧ (l : Int) < n := by omega
        have hg2 : 0 ≤ (g0 : Int) ∧ (g0 : Int) < n := by omega
        obtain ⟨tb, tof, rfl, htb⟩ := HT.out.base_ nz
        clear hl hf hv hvp
        go_enter Try.func16, Try.ntmps16
        go_upto_region 5 with (first
          | (go_at_call 28; rw [← HU.out]; refine (refValid_any s A _ nw c n c' wd F U HA.out HT.out).mono ?_; rintro e w1 ⟨rfl, hb1⟩; rw [HV.out]; have X := BX.out.next hb1; have x0 := X.cell 0; have x1 := X.cell 1; have x2 := X.cell 2; have xz := X.lt; simp at x0 x1 x2; have HX := Lib.hid X; have HB1 := Lib.hid hb1; clear hb1 X)
          | (go_at_call 35; (with_reducible show Calls _ _ #[_, .int .i64 l] w1 _); refine (outside_any s _ _ n c' l _).mono ?_; rintro e w2 ⟨rfl, hb2⟩; rw [HL.out]; have Y := HX.out.next hb2; have y0 := Y.cell 0; have y1 := Y.cell 1; have y2 := Y.cell 2; have yz := Y.lt; simp at y0 y1 y2; have HB2 := Lib.hid (below_next HB1.out (Nat.le_refl _) hb2); have HY := Lib.hid Y; clear hb2 Y)
          | (go_at_call 35; (with_reducible show Calls _ _ #[_, .int .i64 g0] w2 _); refine (outside_any s _ _ n c' g0 _).mono ?_; rintro e w3 ⟨rfl, hb3⟩; rw [HF.out]; have Z := HY.out.next hb3; have z0 := Z.cell 0; have z1 := Z.cell 1; have z2 := Z.cell 2; have zz := Z.lt; simp at z0 z1 z2; have HB3 := Lib.hid (below_next HB2.out (Nat.le_refl _) hb3); have HZ := Lib.hid Z; clear hb3 Z))
        have HT3 := Lib.hid (HT.out.next HB3.out)
        obtain ⟨htb3, c0, c1, c2⟩ := HT3.out.cells l hln
        obtain ⟨_, d0, d1, d2⟩ := HT3.out.cells g0 hgn
        obtain ⟨xl, hxl⟩ : ∃ x, x = F l := ⟨_, rfl⟩
        obtain ⟨xg, hxg⟩ : ∃ x, x = F g0 := ⟨_, rfl⟩
        rw [← hxl] at c0 c1 c2
        rw [← hxg] at d0 d1 d2
        have HXL := Lib.hid hxl
        have HXG := Lib.hid hxg
        clear hxl hxg x0 x1 x2 xz y0 y1 y2 yz
        go_cut [8, 9] (fun v u wx => TwoFr w3 xl xg v u wx)
        case first =>
          go_region
          all_goals
            go_wp2
            go_meet
            first
            | exact ⟨w3.heap.size, w3.heap.size + 1, rfl, rfl, (Blk.new w3 _ _).alloc _, Blk.newAt _ _ _ _ (by simp), (((Below.refl _ _).alloc (Nat.le_refl _) _).alloc (by simp) _).drew⟩
            | exact ⟨w3.heap.size + 1, w3.heap.size, rfl, rfl, Blk.newAt _ _ _ _ (by simp), (Blk.new w3 _ _).alloc _, (((Below.refl _ _).alloc (Nat.le_refl _) _).alloc (by simp) _).drew⟩
        case rest =>
          obtain ⟨C, rfl⟩ : ∃ C, C = wc := ⟨_, rfl⟩
          obtain ⟨ba, bb, rfl, rfl, hba, hbb, hbc⟩ := hcut
          have HBC := Lib.hid (below_next HB3.out (Nat.le_refl _) hbc)
          have HZC := Lib.hid (HZ.out.next hbc)
          obtain ⟨ao, hao⟩ : ∃ x, x = xl.ow := ⟨_, rfl⟩
          obtain ⟨as_, has⟩ : ∃ x, x = xl.st := ⟨_, rfl⟩
          obtain ⟨an, han⟩ : ∃ x, x = xl.nx := ⟨_, rfl⟩
          obtain ⟨go, hgo⟩ : ∃ x, x = xg.ow := ⟨_, rfl⟩
          obtain ⟨gs, hgs⟩ : ∃ x, x = xg.st := ⟨_, rfl⟩
          rw [← hao, ← has, ← han] at hba
          rw [← hgo, ← hgs] at hbb
          have HB0 := Lib.hid (show bad0 F l g0 = (((((ao == -1) || (go == -1)) || (as_ != gs)) || (an != -1)) || ((g0 : Int) == (l : Int))) by rw [hao, has, han, hgo, hgs, HXL.out, HXG.out]; rfl)
          have a0 := hba.cell 0
          have a1 := hba.cell 1
          have a2 := hba.cell 2
          have b0 := hbb.cell 0
          have b1 := hbb.cell 1
          have za := hba.lt
          have zb := hbb.lt
          simp at a0 a1 a2 b0 b1
          clear hao has han hgo hgs hba hbb hbc c0 c1 c2 d0 d1 d2 z0 z1 z2 zz htb3
          go_upto_region 6 with fail
          go_cut [10] (fun v wx => v = .bool (bad0 F l g0) ∧ wx = C)
          case first =>
            by_cases e1 : ao = -1
            · have q1 : (ao == -1) = true := by simpa using e1
              clear e1
              go_wp2
              go_meet
              exact ⟨by rw [HB0.out, q1]; simp, rfl⟩
            · have q1 : (ao == -1) = false := by simpa using e1
              clear e1
              by_cases e2 : go = -1
              · have q2 : (go == -1) = true := by simpa using e2
                clear e2
                go_wp2
                go_meet
                exact ⟨by rw [HB0.out, q1, q2]; simp, rfl⟩
              · have q2 : (go == -1) = false := by simpa using e2
                clear e2
                by_cases e3 : as_ = gs
                · have q3 : (as_ != gs) = false := by simpa using e3
                  clear e3
                  by_cases e4 : an = -1
                  · have q4 : (an != -1) = false := by simpa using e4
                    clear e4
                    by_cases e5 : g0 = l
                    · have q5 : ((g0 : Int) == (l : Int)) = true := by simp; omega
                      clear e5
                      go_wp2
                      go_meet
                      exact ⟨by rw [HB0.out, q1, q2, q3, q4, q5]; simp, rfl⟩
                    · have q5 : ((g0 : Int) == (l : Int)) = false := by simp; omega
                      clear e5
                      go_wp2
                      go_meet
                      exact ⟨by rw [HB0.out, q1, q2, q3, q4, q5]; simp, rfl⟩
                  · have q4 : (an != -1) = true := by simpa using e4
                    clear e4
                    go_wp2
                    go_meet
                    exact ⟨by rw [HB0.out, q1, q2, q3, q4]; simp, rfl⟩
                · have q3 : (as_ != gs) = true := by simpa using e3
                  clear e3
                  go_wp2
                  go_meet
                  exact ⟨by rw [HB0.out, q1, q2, q3]; simp, rfl⟩
          case rest =>
            obtain ⟨rfl, rfl⟩ := hcut
            obtain ⟨v0, hv0⟩ : ∃ v, v = bad0 F l g0 := ⟨_, rfl⟩
            rw [← hv0]
            have HV0 := Lib.hid hv0
            have x0 := HZC.out.cell 0
            have x1 := HZC.out.cell 1
            have x2 := HZC.out.cell 2
            have xz := HZC.out.lt
            simp at x0 x1 x2
            clear hv0 a0 a1 a2 b0 b1 za zb HB0 HXL HXG
            go_wp2_with fail
            go_loopw [10, 12, 66] (fun v _ i wr => ∃ t : Nat, t ≤ n ∧ i = .int .i64 t ∧ v = .bool (v0 || fol F t g0) ∧ Below wc.heap.size wc wr) (fun _ _ i _ => n - (intOf i).toNat)
            case atStart => exact ⟨0, Nat.zero_le _, rfl, by rw [fol_zero]; simp, Below.refl _ _⟩
            case round =>
              obtain ⟨R, rfl⟩ : ∃ R, R = wr := ⟨_, rfl⟩
              obtain ⟨t, ht, rfl, rfl, hb⟩ := hrel
              have HB := Lib.hid hb
              have X := HZC.out.next hb
              have x0 := X.cell 0
              have x1 := X.cell 1
              have x2 := X.cell 2
              have xz := X.lt
              simp at x0 x1 x2
              have HTR := Lib.hid (HT.out.next (below_next HBC.out (Nat.le_refl _) hb))
              clear hb
              by_cases hlt : t < n
              · have hlt2 : 0 ≤ (t : Int) ∧ (t : Int) < n := by omega
                obtain ⟨htr, c0, c1, c2⟩ := HTR.out.cells t hlt
                have HBN : Hid (Below wc.heap.size wc (R.alloc (.cells #[.int .i64 (F t).ow, .int .i64 (F t).st, .int .i64 (F t).nx] 64))) := HB.out.alloc HB.out.size _
                have HS := Lib.hid (fol_succ F t (g0 : Int))
                obtain ⟨y, hy⟩ : ∃ y, y = (F t).nx := ⟨_, rfl⟩
                rw [← hy] at c2 HBN HS
                clear hy X
                cases hv1 : (v0 || fol F t g0) with
                | true =>
                  have HV1 := Lib.hid hv1
                  clear hv1
                  go_wp2
                  exact ⟨⟨t + 1, by omega, by go_num, by rw [HS.out, ← Bool.or_assoc, HV1.out]; rfl, HBN.out⟩, by simp [intOf]; omega⟩
                | false =>
                  have HV1 := Lib.hid hv1
                  clear hv1
                  by_cases e : y = g0
                  · have hq : (y == (g0 : Int)) = true := by simpa using e
                    have HQ := Lib.hid hq
                    clear e
                    go_wp2
                    exact ⟨⟨t + 1, by omega, by go_num, by rw [HS.out, ← Bool.or_assoc, HV1.out, HQ.out]; rfl, HBN.out⟩, by simp [intOf]; omega⟩
                  · have hq : (y == (g0 : Int)) = false := by simpa using e
                    have HQ := Lib.hid hq
                    clear e
                    go_wp2
                    exact ⟨⟨t + 1, by omega, by go_num, by rw [HS.out, ← Bool.or_assoc, HV1.out, HQ.out]; rfl, HBN.out⟩, by simp [intOf]; omega⟩
              · obtain rfl : n = t := by omega
                have hlt2 : ¬ (n : Int) < n := by omega
                obtain ⟨v1, hv1⟩ : ∃ v, v = (v0 || fol F n g0) := ⟨_, rfl⟩
                rw [← hv1]
                obtain ⟨m, hmb, hlen⟩ := HFV.out.len hgn
                have HLEN := Lib.hid hlen
                have HALL := Lib.hid (show (v1 || decide (l ∈ path F m g0)) = lnkB F n l g0 by
                  rw [← path_stop m (n + 1) g0 hmb hlen, hv1, HV0.out]; exact bad0_all HFV.out hln hgn)
                clear hv1 hlen X
                go_wp2_with fail
                go_loop [10, 13] (fun v g => ∃ q : Nat, q ≤ m ∧ g = .int .i64 (iter F q g0) ∧ v = .bool (v1 || decide (l ∈ path F q g0))) (fun _ g => leftP F n g0 m (intOf g))
                case atStart => exact ⟨0, Nat.zero_le _, rfl, by simp [path]⟩
                case round =>
                  obtain ⟨q, hq, rfl, rfl⟩ := hrel
                  by_cases hqm : q = m
                  · have hend : iter F q g0 = -1 := by rw [hqm]; exact HLEN.out.1
                    rw [hend, hqm, HALL.out]
                    clear hend hqm
                    cases hk : lnkB F n l g0 with
                    | true =>
                      have HK := Lib.hid hk
                      clear hk
                      have Rr := BR.out.next (below_next (below_next HBC.out (Nat.le_refl _) HB.out) (Nat.le_refl _) (Below.refl _ _))
                      have r0 := Rr.cell 0
                      have r1 := Rr.cell 1
                      have r2 := Rr.cell 2
                      have f0 := Rr.frozen 0
                      have f1 := Rr.frozen 1
                      have f2 := Rr.frozen 2
                      have rz := Rr.lt
                      simp at r0 r1 r2
                      clear Rr
                      go_wp2
                      refine bodyPost_ret (v := .tuple #[.agg #[.int .i64 0, .slice none 0 0, .slice none 0 0], .int .i64 5]) (by simp [results, Try.results16, go_sem, r0, r1, r2]) rfl (lnk_state HV.out hln hgn HK.out (below_put3 (below_next HBU.out (Nat.le_refl _) (below_next HBC.out (Nat.le_refl _) HB.out)) (by omega) _ _ _))
                    | false =>
                      have HK := Lib.hid hk
                      clear hk
                      have HB4 := Lib.hid (below_next HBC.out (Nat.le_refl _) HB.out)
                      go_upto_region 19 with (go_at_call 29; refine (copy_any s A _ nw c n c' wd F R (HA.out.next HB4.out) (HT.out.next HB4.out) (by omega) nz (by omega)).mono ?_; rintro e w5 ⟨A1, c1, g, c2, rfl, hoA, hoT, hb5⟩)
                      obtain ⟨W, hW⟩ : ∃ W, W = w5.alloc (.cells #[.int .i64 s, .slice A1 nw c1, .slice (some ⟨g, 0, none⟩) n c2] 25) := ⟨_, rfl⟩
                      have hbw : Below w5.heap.size w5 W := by rw [hW]; exact (Below.refl _ _).alloc (Nat.le_refl _) _
                      have BO : Blk W w5.heap.size 25 #[.int .i64 s, .slice A1 nw c1, .slice (some ⟨g, 0, none⟩) n c2] := by rw [hW]; exact Blk.new _ _ _
                      obtain ⟨g1, g2, _⟩ := hoT.spotAt l hln frFree
                      obtain ⟨_, g3, k0, k1, k2, f0, f1, f2, _, hnew⟩ := (hoT.below hbw).spotAt l hln ⟨0, 0, g0⟩
                      have hb15 := below_next HB4.out (Nat.le_refl _) hb5
                      have hb1W := below_next hb15 (Nat.le_refl _) hbw
                      have Rr := BR.out.next hb1W
                      have z4 : w.heap.size + 1 < R.heap.size := (BR.out.next HB4.out).lt
                      obtain ⟨V, hV⟩ : ∃ V, V = W.setCell ⟨g, l * 3 + 2, none⟩ (.int .i64 g0) := ⟨_, rfl⟩
                      have p2 := BO.cell 2
                      simp at p2
                      have BO2 : Blk V w5.heap.size 25 #[.int .i64 s, .slice A1 nw c1, .slice (some ⟨g, 0, none⟩) n c2] := by rw [hV]; exact BO.far (p := ⟨g, _, none⟩) (show w5.heap.size ≠ g by omega) _
                      have R2 : Blk V (w.heap.size + 1) 25 #[.int .i64 0, .slice none 0 0, .slice none 0 0] := by rw [hV]; exact Rr.far (p := ⟨g, _, none⟩) (show w.heap.size + 1 ≠ g by omega) _
                      have HOV : Hid (Own V R.heap.size A1 nw c1 wd) := by rw [hV]; exact Lib.hid (own_set1 (hoA.below hbw) (hoT.below hbw) _)
                      have HNEW : Hid (OwnT V R.heap.size (some ⟨g, 0, none⟩) n c2 (link F l g0)) := by rw [hV]; exact Lib.hid hnew
                      have zw4 : w.heap.size ≤ R.heap.size := by omega
                      have hgw : w.heap.size ≤ g := by omega
                      have HBV : Hid (Below w.heap.size w V) := by rw [hV]; exact Lib.hid ((below_next HBU.out (Nat.le_refl _) hb1W).setCell (p := ⟨g, _, none⟩) hgw _)
                      have HW := Lib.hid hW
                      have HVV := Lib.hid hV
                      have q0 := BO2.cell 0
                      have q1 := BO2.cell 1
                      have q2 := BO2.cell 2
                      have r0 := R2.cell 0
                      have r1 := R2.cell 1
                      have r2 := R2.cell 2
                      have rf0 := R2.frozen 0
                      have rf1 := R2.frozen 1
                      have rf2 := R2.frozen 2
                      have z2 := BO.lt
                      have z3 := BO2.lt
                      have z5 := R2.lt
                      simp at q0 q1 q2 r0 r1 r2
                      clear hW hV hnew hoT hoA hbw
                      rw [← HW.out]
                      go_upto_region 20 with fail
                      rw [← HVV.out]
                      go_wp2
                      refine bodyPost_ret (v := .tuple #[.agg #[.int .i64 s, .slice A1 nw c1, .slice (some ⟨g, 0, none⟩) n c2], .int .i64 0]) (by simp [results, Try.results16, go_sem, r0, r1, r2]) rfl (.inr ⟨lnk_ok HV.out hln hgn HK.out, A1, c1, g, c2, rfl, ?_, ?_, ?_⟩)
                      · exact (HOV.out.put3 z4 _ _ _).lower zw4
                      · exact (HNEW.out.put3 z4 _ _ _).lower zw4
                      · exact below_put3 HBV.out (by omega) _ _ _
                  · have hne : iter F q g0 ≠ -1 := HLEN.out.2 q (by omega)
                    have hin := HFV.out.nonneg hgn hne
                    have hsn := path_snoc q g0 (fun i hi => HLEN.out.2 i (by omega))
                    have hme := leftP_at HFV.out hgn HLEN.out (show q < m by omega)
                    obtain ⟨y, hy⟩ : ∃ y : Nat, iter F q g0 = y := ⟨(iter F q g0).toNat, by omega⟩
                    have hyn : y < n := by omega
                    have hnx : iter F (q + 1) g0 = (F y).nx := by rw [iter_succ, hy, if_neg (by omega), Int.toNat_natCast]
                    rw [hy, Int.toNat_natCast] at hsn
                    rw [hy] at hme ⊢
                    have yi : 0 ≤ (y : Int) ∧ (y : Int) < n := by omega
                    have hneg : ((y : Int) == -1) = false := by simp
                    obtain ⟨_, _, _, c2⟩ := HTR.out.cells y hyn
                    rw [← hnx] at c2
                    have HME := Lib.hid hme
                    have HN := Lib.hid (show leftP F n g0 m (iter F (q + 1) g0) < m - q by
                      by_cases h : q + 1 = m
                      · rw [h, HLEN.out.1, leftP_end]; omega
                      · rw [leftP_at HFV.out hgn HLEN.out (by omega)]; omega)
                    have HSN := Lib.hid hsn
                    clear hne hin hsn hme hy hnx
                    cases hv2 : (v1 || decide (l ∈ path F q g0)) with
                    | true =>
                      have HV2 := Lib.hid hv2
                      clear hv2
                      go_wp2
                      refine ⟨⟨q + 1, by omega, rfl, ?_⟩, ?_⟩
                      · rw [HSN.out]
                        have := HV2.out
                        simp at this
                        rcases this with h | h <;> simp [h]
                      · simp only [intOf]
                        rw [HME.out]
                        exact HN.out
                    | false =>
                      have HV2 := Lib.hid hv2
                      clear hv2
                      by_cases e : y = l
                      · have hq2 : ((y : Int) == (l : Int)) = true := by simp; omega
                        subst e
                        go_wp2
                        refine ⟨⟨q + 1, by omega, rfl, ?_⟩, ?_⟩
                        · rw [HSN.out]; simp
                        · simp only [intOf]
                          rw [HME.out]
                          exact HN.out
                      · have hq2 : ((y : Int) == (l : Int)) = false := by simp; omega
                        have HE := Lib.hid (show ¬ l = y from fun h => e h.symm)
                        clear e
                        go_wp2
                        refine ⟨⟨q + 1, by omega, rfl, ?_⟩, ?_⟩
                        · rw [HSN.out]
                          have := HV2.out
                          simp at this
                          simp [this, HE.out]
                        · simp only [intOf]
                          rw [HME.out]
                          exact HN.out
end Go.Proofs.Ytpbcpobbjoopnaa
