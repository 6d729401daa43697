/-
  The walk of PoolOrder.
-/
import Derived.Test.YtpjhgdgdckndeaaDoorTakes0
import Derived.Deep.RegionHeld3
import Derived.Deep.DeepCutAuto
import Derived.Deep.CutBlock
namespace Go.Proofs.YtpjhgdgdckndeaaDoor
open Go.RowKit
set_option maxRecDepth 100000
set_option linter.unusedVariables false

theorem lst_lift (p q : Nat → Bool) (f : Nat) (hp : p f = true) (hl : ∀ j, j < f → p j = false) (hq : ∀ j, q j = (p j && decide (j ≠ f))) : ∀ t, lstP p t = if f < t then f :: lstP q t else []
  | 0 => by simp [lstP]
  | t + 1 => by
    show lstP p t ++ (if p t = true then [t] else []) = if f < t + 1 then f :: (lstP q t ++ if q t = true then [t] else []) else []
    rw [lst_lift p q f hp hl hq t]
    rcases Nat.lt_trichotomy t f with e | e | e
    · have x1 : ¬ f < t := by omega
      have x2 : ¬ f < t + 1 := by omega
      rw [if_neg x1, if_neg x2, hl t e]; rfl
    · subst e
      have h0 : lstP q t = [] := by
        have key : ∀ s, s ≤ t → lstP q s = [] := by
          intro s
          induction s with
          | zero => intro _; rfl
          | succ s ih =>
            intro h
            have hs : q s = false := by rw [hq s, hl s (by omega)]; rfl
            show lstP q s ++ (if q s = true then [s] else []) = []
            rw [ih (by omega), hs]; rfl
        exact key t (Nat.le_refl _)
      have x1 : ¬ t < t := by omega
      have x2 : t < t + 1 := by omega
      have x3 : q t = false := by rw [hq t]; simp
      rw [if_neg x1, if_pos x2, hp, h0, x3]
      rfl
    · have hq' : q t = p t := by
        have hne : t ≠ f := by omega
        rw [hq t]
        simp [hne]
      have x2 : f < t + 1 := by omega
      rw [if_pos e, if_pos x2, hq']
      rfl
theorem own_lift {F : Nat → Fr} {n f : Nat} {o s : Int} (hl : Least F n f) (ho : o ≠ -1) : ownL F (-1) n = f :: ownL (lift F f o s) (-1) n := by
  have h := lst_lift (owB F (-1)) (owB (lift F f o s) (-1)) f (owB_yes hl.2.1) (fun j hj => owB_no (hl.2.2 j hj)) (fun j => by
    by_cases e : j = f
    · subst e; rw [owB_no (by rw [lift_same]; exact ho)]; simp
    · unfold owB; rw [lift_other e]; simp [e]) n
  rw [if_pos hl.1] at h
  exact h
/-- What holds of the table when j frames have been taken. -/
def OrderInv (k m mk : Nat) (wd : Nat → Int) (F : Nat → Fr) (j : Nat) (G : Nat → Fr) : Prop :=
  ValidP k mk wd m G ∧ (∀ i, (G i).ow ≤ 50 ∨ (200 ≤ (G i).ow ∧ (G i).ow ≤ 300 ∧ (G i).st = 1 * 4294967296 + (G i).ow)) ∧ (ownL F (-1) m).drop j = ownL G (-1) m
theorem order_next {k m mk j f : Nat} {wd : Nat → Int} {F G : Nat → Fr} {z : Int} (h : OrderInv k m mk wd F j G) (hl : Least G m f) (z0 : 0 ≤ z) (z1 : z ≤ 100) : OrderInv k m mk wd F (j + 1) (lift G f (200 + z) (1 * 4294967296 + (200 + z))) := by
  obtain ⟨h1, h2, h3⟩ := h
  refine ⟨valid_lift h1 hl (okO_yes (by omega)) (by decide), fun i => ?_, ?_⟩
  · by_cases e : i = f
    · subst e; rw [lift_same]; exact .inr ⟨by show 200 ≤ 200 + z; omega, by show 200 + z ≤ 300; omega, rfl⟩
    · rw [lift_other e]; exact h2 i
  · have h4 := own_lift (o := 200 + z) (s := 1 * 4294967296 + (200 + z)) hl (by omega)
    rw [← List.drop_drop, h3, h4]
    rfl
theorem order_take {k m mk j : Nat} {wd : Nat → Int} {F G : Nat → Fr} {z : Int} (h : OrderInv k m mk wd F j G) (hj : j < (ownL F (-1) m).length) (hm : m ≤ 64) (z0 : 0 ≤ z) (z1 : z ≤ 100) :
    ∃ f, Least G m f ∧ takeE k mk wd m G (200 + z) 1 = 0 ∧ numF (ownL F (-1) m) j = f := by
  obtain ⟨h1, h2, h3⟩ := h
  have h4 : cntP (owB G (-1)) m ≠ 0 := by
    rw [← lstP_length]
    show (ownL G (-1) m).length ≠ 0
    rw [← h3, List.length_drop]
    omega
  obtain ⟨f, hl, _⟩ := least_of hm h4
  refine ⟨f, hl, takeE_ok h1 (okO_yes (by omega)) (by decide) (fun i _ he => ?_) ⟨f, hl.1, hl.2.1⟩, ?_⟩
  · rcases h2 i with h | ⟨_, _, h⟩
    · omega
    · rw [h, he]
  · have h5 := first_free hl
    rw [← h5]
    unfold numF
    rw [← h3, List.getD_eq_getElem?_getD, List.getD_eq_getElem?_getD, List.getElem?_drop, Nat.add_zero]
theorem order_full {k m mk j : Nat} {wd : Nat → Int} {F G : Nat → Fr} (h : OrderInv k m mk wd F j G) (hj : (ownL F (-1) m).length ≤ j) : takeE k mk wd m G 900 0 = 4 ∧ ownL G (-1) m = [] := by
  obtain ⟨h1, h2, h3⟩ := h
  have h0 : ownL G (-1) m = [] := by rw [← h3]; exact List.drop_eq_nil_of_le hj
  have h4 : cntP (owB G (-1)) m = 0 := by rw [← lstP_length]; show (ownL G (-1) m).length = 0; rw [h0]; rfl
  refine ⟨?_, h0⟩
  unfold takeE
  rw [if_neg (by rw [validB_yes h1]; decide), if_neg, if_pos h4]
  intro e
  obtain ⟨f, _, a2, _⟩ := (anyB_iff G _ _ m).1 e
  rcases h2 f with h | ⟨_, h, _⟩ <;> omega
theorem nums_put3 {w : World} {b n c : Nat} {A : Option Addr} {f : Nat → Int} (h : Nums w w.heap.size A n c f) (hb : b < w.heap.size) (hA : ∀ x, A = some x → x.block ≠ b) (v0 v1 v2 : Value) :
    Nums (((w.setCell ⟨b, 0, none⟩ v0).setCell ⟨b, 1, none⟩ v1).setCell ⟨b, 2, none⟩ v2) (((w.setCell ⟨b, 0, none⟩ v0).setCell ⟨b, 1, none⟩ v1).setCell ⟨b, 2, none⟩ v2).heap.size A n c f := by
  refine ⟨h.1, h.2.1, h.2.2.1, fun hn => ?_⟩
  obtain ⟨x, o, hA', hx, hc⟩ := h.2.2.2 hn
  refine ⟨x, o, hA', by simpa using hx, fun j hj => ?_⟩
  rw [cell_far3 (hA _ hA')]
  exact hc j hj

/-- At the loop's head: j frames have been taken, in their order. -/
def OrderAt (k m mk : Nat) (wd : Nat → Int) (F : Nat → Fr) (w : World) (b5 : Nat) (Af : Option Addr) (cn cf : Nat) (iv : Value) (wr : World) : Prop :=
  ∃ (j : Nat) (Bj : Option Addr) (dj : Nat) (Gj : Option Addr) (ej : Nat) (Fj : Nat → Fr), j ≤ cn ∧ iv = .int .i64 j ∧ Blk wr b5 26 #[.int .i64 k, .slice Bj mk dj, .slice Gj m ej] ∧
    Arr wr wr.heap.size Bj mk dj wd ∧ Tab wr wr.heap.size Gj m ej Fj ∧ Nums wr wr.heap.size Af cn cf (numF (ownL F (-1) m)) ∧ Below w.heap.size w wr ∧ OrderInv k m mk wd F j Fj

set_option maxHeartbeats 8000000 in
theorem walkOrder (Al : Option Addr) (nl cl : Nat) (Ao : Option Addr) (no co : Nat) (w : World) (hL : ListP w w.heap.size Al nl cl) (hO : ListP w w.heap.size Ao no co) (hD : Db w) :
    Calls Tryd.prog 6 #[.slice Al nl cl, .slice Ao no co] w fun e w' => e = .returned (.bool true) ∧ Below w.heap.size w w' := by
  have HD := Lib.hid hD
  have HLO := Lib.hid hO
  clear hD hO
  go_enter Tryd.func6, Tryd.ntmps6
  go_wp2_with fail
  refine (deck_any Al nl cl w hL).mono ?_
  rintro e U2 ⟨rfl, hd, hb, hz⟩
  have HDK := Lib.hid hd
  have HBU2 := Lib.hid hb
  clear hd hb hL hz
  go_wp2_with fail
  refine (space_any w.heap.size U2 HDK.out).mono ?_
  rintro e U3 ⟨k, m, B, d, gb, d', wd, F, L, rfl, k0, k1, m0, m1, hoA, hoT, ⟨hvp, how⟩, _, hG⟩
  have HBU3 := Lib.hid (below_turn HBU2.out hG (Nat.le_refl _))
  have HA3 := Lib.hid hoA.arr
  have HT3 := Lib.hid hoT.tab
  have HVP := Lib.hid hvp
  have HOW := Lib.hid how
  have hmk0 : 0 < m * 2 ^ k := Nat.mul_pos (by omega) (Nat.two_pow_pos k)
  have hmk1 : m * 2 ^ k ≤ 16384 := prod_le (by omega) (by omega)
  obtain ⟨mk, hmk⟩ : ∃ mk, mk = m * 2 ^ k := ⟨_, rfl⟩
  rw [← hmk] at HA3 HVP hmk0 hmk1 ⊢
  clear hG hoA hoT HDK HBU2 hvp how hmk
  go_wp2_with fail
  obtain ⟨V, hV⟩ : ∃ V, V = U3.alloc (.cells #[.int .i64 k, .slice B mk d, .slice (some ⟨gb, 0, none⟩) m d'] 26) := ⟨_, rfl⟩
  have hbv : Below U3.heap.size U3 V := by rw [hV]; exact (Below.refl _ _).alloc (Nat.le_refl _) _
  have BY := Lib.hid (show Blk V U3.heap.size 26 #[.int .i64 k, .slice B mk d, .slice (some ⟨gb, 0, none⟩) m d'] by rw [hV]; exact Blk.new _ _ _)
  have HBV := Lib.hid (below_next HBU3.out (Nat.le_refl _) hbv)
  have HA := Lib.hid (HA3.out.next hbv)
  have HT := Lib.hid (HT3.out.next hbv)
  have HDV := Lib.hid (HD.out.next HBV.out)
  have hbu : w.heap.size ≤ U3.heap.size := HBU3.out.size
  have HV := Lib.hid hV
  clear hV hbv HBU3 HA3 HT3
  have q0 := BY.out.cell 0
  have q1 := BY.out.cell 1
  have q2 := BY.out.cell 2
  have qz := BY.out.lt
  simp at q0 q1 q2
  obtain ⟨cn, hcn⟩ : ∃ cn, cn = (ownL F (-1) m).length := ⟨_, rfl⟩
  have HCN := Lib.hid hcn
  have hcm : cn ≤ m := by rw [hcn]; show (lstP _ _).length ≤ m; rw [lstP_length]; exact cntP_le _ _
  clear hcn
  rw [← HV.out]
  go_upto_block 0 with (go_at_call 10; refine (free_new k _ (some ⟨gb, 0, none⟩) m d' F V HT.out (by omega) HDV.out).mono ?_; rintro e U4 ⟨Af, cf, rfl, nf, hb4, hcf⟩; rw [← HCN.out] at nf ⊢)
  have hcfu : ∀ x, Af = some x → x.block ≠ U3.heap.size := fun x hx e => by have := hcf x hx; omega
  have ST := Lib.hid (show OrderAt k m mk wd F w U3.heap.size Af cn cf (.int .i64 0) U4 from
    ⟨0, B, d, some ⟨gb, 0, none⟩, d', F, Nat.zero_le _, rfl, BY.out.next hb4, HA.out.next hb4, HT.out.next hb4, nf, below_next HBV.out (Nat.le_refl _) hb4, HVP.out, fun i => .inl (HOW.out i), rfl⟩)
  clear hb4 nf q0 q1 q2 qz BY HA HT HDV HBV hcf HVP HOW
  go_wp2
  go_loopw [8, 9, 10, 11, 12, 13, 27] (fun _ _ _ _ _ _ i wr => OrderAt k m mk wd F w U3.heap.size Af cn cf i wr) (fun _ _ _ _ _ _ i _ => cn - (intOf i).toNat)
  case atStart => exact ST.out
  case round =>
    obtain ⟨j, Bj, dj, Gj, ej, Fj, hj, rfl, hbs, haj, htj, hnj, hbj, hij⟩ := hrel
    have BS := Lib.hid hbs
    have HA := Lib.hid haj
    have HT := Lib.hid htj
    have HNU := Lib.hid hnj
    have HB := Lib.hid hbj
    have HI := Lib.hid hij
    have HDW := Lib.hid (HD.out.next hbj)
    have q0 := hbs.cell 0
    have q1 := hbs.cell 1
    have q2 := hbs.cell 2
    have qz := hbs.lt
    simp at q0 q1 q2
    clear hbs haj htj hnj hbj hij
    by_cases hlt : j < cn
    · obtain ⟨fb, fo, e, hfb, hfc⟩ := HNU.out.at_ j hlt
      subst e
      have hlt2 : 0 ≤ (j : Int) ∧ (j : Int) < cn := by omega
      have j64 : (j : Int) < 64 := by omega
      by_cases hno : no = 0
      · have hno2 : ¬ (0 : Int) < (no : Int) := by omega
        clear hno
        obtain ⟨f, hl, hte, hff⟩ := order_take (z := (j : Int)) HI.out (by rw [← HCN.out]; exact hlt) (by omega) (by omega) (by omega)
        rw [hff] at hfc
        clear hff
        go_upto_region 10 with (first
          | fail
          | (go_at_call 18; refine ((take_any k Bj Gj mk dj m ej wd Fj (200 + (j : Int)) 1 _ HA.out HT.out HDW.out).mono (fun e w' h => h.yes hte hl)).mono ?_; rintro e wn ⟨A1, c1, g1, e1, rfl, ho, ht', hb⟩))
        obtain ⟨W, hW⟩ : ∃ W, W = wn.alloc (.cells #[.int .i64 k, .slice A1 mk c1, .slice (some ⟨g1, 0, none⟩) m e1] 26) := ⟨_, rfl⟩
        have hbw : Below wn.heap.size wn W := by rw [hW]; exact (Below.refl _ _).alloc (Nat.le_refl _) _
        have BX := Lib.hid (show Blk W wn.heap.size 26 #[.int .i64 k, .slice A1 mk c1, .slice (some ⟨g1, 0, none⟩) m e1] by rw [hW]; exact Blk.new _ _ _)
        have hbW := below_next hb (Nat.le_refl _) hbw
        have BS' := Lib.hid (BS.out.next hbW)
        have HO' := Lib.hid (ho.below hbw)
        have HT' := Lib.hid (ht'.below hbw)
        have HN' := Lib.hid (HNU.out.next hbW)
        have HB' := Lib.hid (below_next HB.out (Nat.le_refl _) hbW)
        have zb : U3.heap.size < wr.heap.size := BS.out.lt
        have zw := hb.size
        have r0 := BX.out.cell 0
        have r1 := BX.out.cell 1
        have r2 := BX.out.cell 2
        have rz := BX.out.lt
        have f0 := BS'.out.frozen 0
        have f1 := BS'.out.frozen 1
        have f2 := BS'.out.frozen 2
        have b0' := BS'.out.cell 0
        have b1' := BS'.out.cell 1
        have b2' := BS'.out.cell 2
        have bz := BS'.out.lt
        have HW := Lib.hid hW
        simp at r0 r1 r2 b0' b1' b2'
        have NX := Lib.hid (show OrderAt k m mk wd F w U3.heap.size (some ⟨fb, fo, none⟩) cn cf (.int .i64 ((j : Int) + 1)) (((W.setCell ⟨U3.heap.size, 0, none⟩ (.int .i64 k)).setCell ⟨U3.heap.size, 1, none⟩ (.slice A1 mk c1)).setCell ⟨U3.heap.size, 2, none⟩ (.slice (some ⟨g1, 0, none⟩) m e1)) from
          ⟨j + 1, A1, c1, some ⟨g1, 0, none⟩, e1, _, by omega, by go_num, BS'.out.set3 _ _ _, (HO'.out.put3 (by omega) _ _ _).arr, (HT'.out.put3 (by omega) _ _ _).tab, nums_put3 HN'.out (by omega) hcfu _ _ _, below_put3 HB'.out hbu _ _ _, order_next HI.out hl (by omega) (by omega)⟩)
        clear hW hbw hb ho ht' hbW q0 q1 q2
        rw [← HW.out]
        go_wp2
        exact ⟨NX.out, by simp [intOf]; omega⟩
      · have hno2 : (0 : Int) < (no : Int) := by omega
        obtain ⟨r, hr⟩ : ∃ r, r = j % no := ⟨_, rfl⟩
        have hrn : r < no := by rw [hr]; exact Nat.mod_lt _ (by omega)
        have hmod : (j : Int) % (no : Int) = (r : Int) := by rw [hr]; simp
        have hr2 : 0 ≤ (r : Int) ∧ (r : Int) < no := by omega
        have hnm : (no : Int) ≤ 9223372036854775807 := by have := HLO.out.1; have := HLO.out.2.1; unfold maxLen at this; omega
        obtain ⟨ob, oo, v, e, hob, hoc, v0, v1⟩ := HLO.out.2.2 r hrn
        subst e
        have hoc' := (HB.out.cell (p := ⟨ob, oo + r, none⟩) hob).trans hoc
        obtain ⟨z, hz, z0, z1⟩ : ∃ z : Int, v % 3 = z ∧ 0 ≤ z ∧ z ≤ 100 := ⟨_, rfl, by omega, by omega⟩
        have HZ3 := Lib.hid hz
        obtain ⟨f, hl, hte, hff⟩ := order_take (z := z) HI.out (by rw [← HCN.out]; exact hlt) (by omega) z0 z1
        rw [hff] at hfc
        clear hff hr hoc hz
        go_upto_region 10 with (first
          | (go_at_call 17; refine (mod_any v 3 (by omega) (by omega) v0 v1 _).mono ?_; rintro e w' ⟨rfl, rfl⟩; rw [HZ3.out])
          | (go_at_call 18; refine ((take_any k Bj Gj mk dj m ej wd Fj (200 + z) 1 _ HA.out HT.out HDW.out).mono (fun e w' h => h.yes hte hl)).mono ?_; rintro e wn ⟨A1, c1, g1, e1, rfl, ho, ht', hb⟩))
        obtain ⟨W, hW⟩ : ∃ W, W = wn.alloc (.cells #[.int .i64 k, .slice A1 mk c1, .slice (some ⟨g1, 0, none⟩) m e1] 26) := ⟨_, rfl⟩
        have hbw : Below wn.heap.size wn W := by rw [hW]; exact (Below.refl _ _).alloc (Nat.le_refl _) _
        have BX := Lib.hid (show Blk W wn.heap.size 26 #[.int .i64 k, .slice A1 mk c1, .slice (some ⟨g1, 0, none⟩) m e1] by rw [hW]; exact Blk.new _ _ _)
        have hbW := below_next hb (Nat.le_refl _) hbw
        have BS' := Lib.hid (BS.out.next hbW)
        have HO' := Lib.hid (ho.below hbw)
        have HT' := Lib.hid (ht'.below hbw)
        have HN' := Lib.hid (HNU.out.next hbW)
        have HB' := Lib.hid (below_next HB.out (Nat.le_refl _) hbW)
        have zb : U3.heap.size < wr.heap.size := BS.out.lt
        have zw := hb.size
        have r0 := BX.out.cell 0
        have r1 := BX.out.cell 1
        have r2 := BX.out.cell 2
        have rz := BX.out.lt
        have f0 := BS'.out.frozen 0
        have f1 := BS'.out.frozen 1
        have f2 := BS'.out.frozen 2
        have b0' := BS'.out.cell 0
        have b1' := BS'.out.cell 1
        have b2' := BS'.out.cell 2
        have bz := BS'.out.lt
        have HW := Lib.hid hW
        simp at r0 r1 r2 b0' b1' b2'
        have NX := Lib.hid (show OrderAt k m mk wd F w U3.heap.size (some ⟨fb, fo, none⟩) cn cf (.int .i64 ((j : Int) + 1)) (((W.setCell ⟨U3.heap.size, 0, none⟩ (.int .i64 k)).setCell ⟨U3.heap.size, 1, none⟩ (.slice A1 mk c1)).setCell ⟨U3.heap.size, 2, none⟩ (.slice (some ⟨g1, 0, none⟩) m e1)) from
          ⟨j + 1, A1, c1, some ⟨g1, 0, none⟩, e1, _, by omega, by go_num, BS'.out.set3 _ _ _, (HO'.out.put3 (by omega) _ _ _).arr, (HT'.out.put3 (by omega) _ _ _).tab, nums_put3 HN'.out (by omega) hcfu _ _ _, below_put3 HB'.out hbu _ _ _, order_next HI.out hl (by omega) (by omega)⟩)
        clear hW hbw hb ho ht' hbW q0 q1 q2
        rw [← HW.out]
        go_wp2
        exact ⟨NX.out, by simp [intOf]; omega⟩
    · obtain rfl : j = cn := by omega
      have hlt2 : ¬ (j : Int) < (j : Int) := by omega
      obtain ⟨he, hz⟩ := order_full HI.out (by rw [← HCN.out]; exact Nat.le_refl _)
      go_upto_region 15 with (go_at_call 18; refine ((take_any k Bj Gj mk dj m ej wd Fj 900 0 _ HA.out HT.out HDW.out).mono (fun e w' h => h.err he (by decide))).mono ?_; rintro e wn ⟨A1, c1, A1', e1, rfl, _, _, hb⟩)
      obtain ⟨W, hW⟩ : ∃ W, W = wn.alloc (.cells #[.int .i64 0, .slice A1 0 c1, .slice A1' 0 e1] 26) := ⟨_, rfl⟩
      have hbw : Below wn.heap.size wn W := by rw [hW]; exact (Below.refl _ _).alloc (Nat.le_refl _) _
      have hbW := below_next hb (Nat.le_refl _) hbw
      have BS' := BS.out.next hbW
      have HT' := Lib.hid (HT.out.next hbW)
      have HB' := Lib.hid (below_next HB.out (Nat.le_refl _) hbW)
      have HD' := Lib.hid (HD.out.next HB'.out)
      have HZL := Lib.hid (show (ownL Fj (-1) m).length = 0 by rw [hz]; rfl)
      have b0' := BS'.cell 0
      have b1' := BS'.cell 1
      have b2' := BS'.cell 2
      have bz := BS'.lt
      have HW := Lib.hid hW
      simp at b0' b1' b2'
      clear hW hbw hb hbW q0 q1 q2 he hz BS'
      rw [← HW.out]
      go_wp2_with (first
        | (go_at_call 10; refine (free_any k _ Gj m ej Fj W HT'.out (by omega) HD'.out).mono ?_; rintro e w8 ⟨A8, c8, rfl, _, hb8⟩; rw [HZL.out])
        | (go_at_call 14; refine (awake4_any _ (HD'.out.next hb8)).mono ?_; rintro e w9 ⟨rfl, hb9⟩))
      go_ret
      exact ⟨rfl, below_next (below_next HB'.out (Nat.le_refl _) hb8) (Nat.le_refl _) hb9⟩
end Go.Proofs.YtpjhgdgdckndeaaDoor
