/-
  The walk of BumpApart. (Made by mkbaa-s9.py.)
-/
import Derived.Test.YthcfcciemjkilaaDoorApr
import Derived.Test.YthcfcciemjkilaaDoorAwk
import Derived.Deep.RegionHeld3
import Derived.Deep.DeepCutAuto
namespace Go.Proofs.YthcfcciemjkilaaDoor
open Go.RowKit
set_option maxRecDepth 100000
set_option linter.unusedVariables false

/-- What holds at the head of BumpApart's loop; bs: the box of the space, qb: the row of the increments. -/
def AprAt (dk bs qb : Nat) (w wr : World) : Prop :=
  ∃ (base : Nat) (G : Nat → Fr) (I : Nat → IncR) (A : Option Addr) (c : Nat) (A' : Option Addr) (c' : Nat), DeckP wr dk ∧ dk < base ∧ base ≤ wr.heap.size ∧ Blk wr bs 30 #[.int .i64 3, .slice A 192 c, .slice A' 24 c'] ∧ QRow wr qb I ∧ Own wr base A 192 c (fun _ => 0) ∧ OwnT wr base A' 24 c' G ∧
    ValidP (3 : Nat) 192 (fun _ => 0) 24 G ∧ (∀ j, j < 3 → IncOk G 24 3 (I j) ∧ (I j).sq = (j : Int) + 1) ∧ Below w.heap.size w wr

set_option maxHeartbeats 80000000 in
theorem walkBApart (Al : Option Addr) (nl cl : Nat) (w : World) (hL : ListP w w.heap.size Al nl cl) (hD : Db w) :
    Calls Tryd.prog 3 #[.slice Al nl cl] w fun e w' => e = .returned (.bool true) ∧ Below w.heap.size w w' := by
  have HD := Lib.hid hD
  have HL := Lib.hid hL
  clear hL hD
  go_enter Tryd.func3, Tryd.ntmps3
  go_wp2_with fail
  refine (few9_any Al nl cl w).mono ?_
  rintro e w0 ⟨⟨b0, rfl⟩, rfl⟩
  rcases b0 with _ | _
  · go_wp2_with (go_at_call 5; refine (awake9_any _ HD.out).mono ?_; rintro e w6 ⟨rfl, b6⟩; have HB6 := Lib.hid b6; clear b6)
    go_ret
    exact ⟨rfl, HB6.out⟩
  · go_wp2_with fail
    refine (deck_any Al nl cl w HL.out).mono ?_
    rintro e U2 ⟨rfl, hd, hb, hz⟩
    have HDK := Lib.hid hd
    have HBU2 := Lib.hid hb
    have zd : w.heap.size < U2.heap.size := by omega
    obtain ⟨dk, hdk⟩ : ∃ x, x = w.heap.size := ⟨_, rfl⟩
    rw [← hdk] at HDK zd ⊢
    have HDKE := Lib.hid hdk
    clear hd hb hz hdk
    go_wp2_with fail
    refine (refNew_yes 3 24 U2 (by decide) (by decide) (by decide) (by decide)).mono ?_
    rintro e U3 ⟨A, A', rfl, ho, ht, hb⟩
    obtain ⟨V, hV⟩ : ∃ V, V = (U3.alloc (.cells #[.int .i64 3, .slice A 192 192, .slice A' 24 24] 30)).alloc (.cells #[.int .i64 1, .int .i64 0, .int .i64 (-1), .int .i64 (-1), .int .i64 0, .int .i64 2, .int .i64 1, .int .i64 (-1), .int .i64 (-1), .int .i64 0, .int .i64 3, .int .i64 1, .int .i64 (-1), .int .i64 (-1), .int .i64 0] 35) := ⟨_, rfl⟩
    obtain ⟨bs, hbs⟩ : ∃ x, x = U3.heap.size := ⟨_, rfl⟩
    obtain ⟨qb, hqb⟩ : ∃ x, x = U3.heap.size + 1 := ⟨_, rfl⟩
    have hbv : Below U2.heap.size U2 V := by rw [hV]; exact below_alloc9 (below_alloc9 hb _) _
    have zU3 := hb.size
    have hQ : Blk V qb 35 #[.int .i64 1, .int .i64 0, .int .i64 (-1), .int .i64 (-1), .int .i64 0, .int .i64 2, .int .i64 1, .int .i64 (-1), .int .i64 (-1), .int .i64 0, .int .i64 3, .int .i64 1, .int .i64 (-1), .int .i64 (-1), .int .i64 0] := by rw [hV, hqb]; exact Blk.newAt _ _ _ _ (by simp)
    have hvf : ValidP (3 : Nat) 192 (fun _ => 0) 24 (fun _ => frFree) := valid_fresh (k := 3) (n := 24) (by decide) (by decide) (by decide) (by decide)
    have hcn : ∀ o : Int, o ≠ -1 → cntO (fun _ => frFree) o 24 = 0 := fun o ho => cntO_none (fun f _ e => ho e.symm)
    have ST := Lib.hid (show AprAt dk bs qb w V from ⟨U2.heap.size, fun _ => frFree, fun j => if j = 0 then ⟨1, 0, -1, -1, 0⟩ else if j = 1 then ⟨2, 1, -1, -1, 0⟩ else ⟨3, 1, -1, -1, 0⟩, A, 192, A', 24, HDK.out.next hbv, by omega, hbv.size, by rw [hV, hbs]; exact (Blk.new _ _ _).alloc _, ⟨_, hQ, rfl, fun j hj => by
        rcases (by omega : j = 0 ∨ j = 1 ∨ j = 2) with e | e | e <;> subst e <;> exact ⟨rfl, rfl, rfl, rfl, rfl⟩⟩, by rw [hV]; exact (ho.alloc9 _).alloc9 _, by rw [hV]; exact (ht.alloc9 _).alloc9 _, hvf, fun j hj => by
        rcases (by omega : j = 0 ∨ j = 1 ∨ j = 2) with e | e | e <;> subst e <;> exact ⟨⟨⟨by decide, by decide, by decide, by decide, 0, rfl, .inl ⟨ceilV_zero 3, rfl⟩, by rw [ceilV_zero]; exact hcn _ (by decide)⟩, fun _ => ⟨rfl, rfl⟩⟩, rfl⟩, below_next HBU2.out (Nat.le_refl _) hbv⟩)
    have hne : qb ≠ bs := by omega
    have hdl : dk < bs ∧ dk < qb := by omega
    have HV := Lib.hid hV
    have HBS := Lib.hid hbs
    have HQB := Lib.hid hqb
    clear hV hbv ho ht hb hvf hbs hqb zU3 zd HBU2 HDK hQ hcn
    go_upto_region 8 with fail
    rw [← HV.out]
    try rw [← HQB.out]
    try rw [← HBS.out]
    clear HV HBS HQB
    go_wp2_with fail
    go_loopw [7, 8, 9, 10, 11, 12, 13, 15] (fun kk _ _ _ _ _ _ _ wr => ∃ k : Nat, k ≤ 30 ∧ kk = .int .i64 k ∧ AprAt dk bs qb w wr) (fun kk _ _ _ _ _ _ _ _ => 30 - (intOf kk).toNat)
    case atStart => exact ⟨0, by omega, rfl, ST.out⟩
    case round =>
      obtain ⟨R, rfl⟩ : ∃ R, R = wr := ⟨_, rfl⟩
      obtain ⟨k, hk, rfl, base, G, I, A, c, A', c', hdk, hdb, hbR, hbs, hq, ho, ht, hv, hI, hb⟩ := hrel
      have HV := Lib.hid hv
      have HI := Lib.hid hI
      have HHD := Lib.hid (HD.out.next hb)
      have zq : qb < R.heap.size := hq.lt
      have zs : bs < R.heap.size := hbs.lt
      rcases (show 30 ≤ k ∨ k < 30 by omega) with hk30 | hk30
      · have hk2 : ¬ (k : Int) < 30 := by omega
        have HB := Lib.hid hb
        clear hv hI hbs hq ho ht hdk hb
        go_wp2_with (go_at_call 5; refine (awake9_any _ HHD.out).mono ?_; rintro e w6 ⟨rfl, b6⟩; have HB6 := Lib.hid b6; clear b6)
        go_ret
        exact ⟨rfl, below_next HB.out (by have := HB.out.size; omega) HB6.out⟩
      have hk2 : (k : Int) < 30 := by omega
      clear hv hI
      go_wp2_with fail
      refine (left9_any dk R hdk).mono ?_
      rintro e R0 ⟨⟨b3, rfl⟩, hb3⟩
      have BS := Lib.hid (hbs.next hb3)
      have HQ := Lib.hid (hq.next hb3)
      have HO := Lib.hid (ho.below hb3)
      have HT := Lib.hid (ht.below hb3)
      have HB := Lib.hid (below_next hb (by omega) hb3)
      have HDK := Lib.hid (hdk.next hb3)
      have HD0 := Lib.hid (HHD.out.next hb3)
      have zb0 := hb3.size
      clear hb3 hbs hq ho ht hb hdk HHD
      rcases b3 with _ | _
      · go_wp2_with (go_at_call 5; refine (awake9_any _ HD0.out).mono ?_; rintro e w6 ⟨rfl, b6⟩; have HB6 := Lib.hid b6; clear b6)
        go_ret
        exact ⟨rfl, below_next HB.out (by have := HB.out.size; omega) HB6.out⟩
      · go_wp2_with fail
        refine (next_any dk 3 R0 (by decide) (by decide) HDK.out).mono ?_
        rintro e Z0 ⟨vn, rfl, vn0, vn1, hdk, hg⟩
        obtain ⟨n, e, hn3⟩ : ∃ n : Nat, vn = n ∧ n < 3 := ⟨vn.toNat, by omega, by omega⟩
        subst e
        have HDK1 := Lib.hid hdk
        have BS1 := Lib.hid (BS.out.turn hg (by omega))
        have HQ1 := Lib.hid (HQ.out.turn hg (by omega))
        have HO1 := Lib.hid (HO.out.turnB hg hdb)
        have HT1 := Lib.hid (HT.out.turnB hg hdb)
        have HB1 := Lib.hid (below_turn HB.out hg (by have := HDKE.out; omega))
        have zb1 := hg.size
        clear hdk hg BS HQ HO HT HB HDK HD0 vn0 vn1
        obtain ⟨hIok, hIsq⟩ := HI.out n hn3
        obtain ⟨i, hi⟩ : ∃ i, i = I n := ⟨_, rfl⟩
        obtain ⟨q0, q1, q2, q3, q4⟩ := HQ1.out.cells hn3
        rw [← hi] at q0 q1 q2 q3 q4 hIok hIsq
        obtain ⟨sq, bt, fi, la, wo⟩ := i
        dsimp only at q0 q1 q2 q3 q4 hIsq
        have HIN := Lib.hid hi
        have HIOK := Lib.hid hIok
        have HISQ := Lib.hid hIsq
        clear hIsq hIok hi
        have hn2 : 0 ≤ (n : Int) ∧ (n : Int) < 3 := by omega
        have zs1 : bs < Z0.heap.size := BS1.out.lt
        have zq1 : qb < Z0.heap.size := HQ1.out.lt
        have zd1 : dk < Z0.heap.size := HDK1.out.lt
        have p0 := BS1.out.cell 0
        have p1 := BS1.out.cell 1
        have p2 := BS1.out.cell 2
        simp at p0 p1 p2
        have HS := Lib.hid (show ∀ w', Z0.grownBy w' (some dk) → (w'.cell? ⟨bs, 0, none⟩ = some (.int .i64 3) ∧ w'.cell? ⟨bs, 1, none⟩ = some (.slice A 192 c) ∧ w'.cell? ⟨bs, 2, none⟩ = some (.slice A' 24 c') ∧ w'.cell? ⟨qb, n * 5, none⟩ = some (.int .i64 sq) ∧ w'.cell? ⟨qb, n * 5 + 1, none⟩ = some (.int .i64 bt) ∧ w'.cell? ⟨qb, n * 5 + 2, none⟩ = some (.int .i64 fi) ∧ w'.cell? ⟨qb, n * 5 + 3, none⟩ = some (.int .i64 la) ∧ w'.cell? ⟨qb, n * 5 + 4, none⟩ = some (.int .i64 wo)) from fun w' h => by
          have hs : ∀ o, w'.cell? ⟨bs, o, none⟩ = Z0.cell? ⟨bs, o, none⟩ := fun o => cell_heap (h.block bs zs1 (fun e => by injection e; omega))
          have hq' : ∀ o, w'.cell? ⟨qb, o, none⟩ = Z0.cell? ⟨qb, o, none⟩ := fun o => cell_heap (h.block qb zq1 (fun e => by injection e; omega))
          exact ⟨(hs _).trans p0, (hs _).trans p1, (hs _).trans p2, (hq' _).trans q0, (hq' _).trans q1, (hq' _).trans q2, (hq' _).trans q3, (hq' _).trans q4⟩)
        have hK0 : DeckP Z0 dk := HDK1.out
        have hG0 : Z0.grownBy Z0 (some dk) := turn_below (Below.refl _ _)
        have N1 := Lib.hid (show ∀ X, Z0.grownBy X (some dk) → DeckP X dk → Calls Tryd.prog 9 #[.pointer (some ⟨dk, 0, none⟩), .int .i64 20] X (fun e w' => ∃ v : Int, e = .returned (.int .i64 v) ∧ 0 ≤ v ∧ v < 20 ∧ DeckP w' dk ∧ X.grownBy w' (some dk) ∧ Z0.grownBy w' (some dk)) from
          fun X h hk => (next_any dk 20 X (by decide) (by decide) hk).mono fun e w' ⟨v, h1, h2, h3, h4, h5⟩ => ⟨v, h1, h2, h3, h4, h5, turn_trans h h5⟩)
        have N2 := Lib.hid (show ∀ X, Z0.grownBy X (some dk) → DeckP X dk → ∀ d : Int, Calls Tryd.prog 10 #[.agg #[.int .i64 3, .slice A 192 c, .slice A' 24 c'], .agg #[.int .i64 sq, .int .i64 bt, .int .i64 fi, .int .i64 la, .int .i64 wo], .int .i64 d] X (fun e w' => AllX (3 : Nat) 192 (fun _ => 0) 24 G sq bt fi la wo d X e w' ∧ DeckP w' dk ∧ Z0.grownBy w' (some dk) ∧ X.heap.size ≤ w'.heap.size) from
          fun X h hk d => (all9_any 3 A A' 192 c 24 c' (fun _ => 0) G sq bt fi la wo d X (HO1.out.turnB h hdb).arr (HT1.out.turnB h hdb).tab (HD.out.next (below_turn HB1.out h (by have := HDKE.out; omega)))).mono fun e w' hx => by
            have hbx : Below X.heap.size X w' := by
              rcases hx with ⟨_, _, _, _, hb⟩ | ⟨_, _, _, _, _, _, _, _, hb⟩
              · exact hb
              · exact hb
            exact ⟨hx, hk.next hbx, turn_next h hbx, hbx.size⟩)
        have w20 : ∀ v : Int, 0 ≤ v → v < 20 → IntKind.i64.wrap (1 + v) = 1 + v := fun v _ _ => IntWalk.i64_in _ (by omega)
        go_upto_region 12 with fail
        go_cut [9, 10, 11, 12] (fun a b c' d wx => AprCut (3 : Nat) 192 24 dk (fun _ => 0) G ⟨sq, bt, fi, la, wo⟩ Z0 a b c' d wx)
        case first =>
          have pd := HS.out Z0.drew (by (repeat (first | (with_reducible exact hG2) | (with_reducible exact hG1) | (with_reducible exact hG0) | (with_reducible refine turn_drew ?_) | (with_reducible refine turn_alloc ?_ _) | (with_reducible refine turn_new5 ?_ ?_ _ _ _ _ _; rotate_left 1; focus (first | (first | (with_reducible exact Nat.le_refl _) | (with_reducible exact Nat.le_add_right _ _) | (with_reducible exact hS1) | (with_reducible exact Nat.le_add_right_of_le hS1) | (with_reducible exact hS2) | (with_reducible exact Nat.le_add_right_of_le hS2)) | (simp; done) | (simp; (first | (with_reducible exact Nat.le_refl _) | (with_reducible exact Nat.le_add_right _ _) | (with_reducible exact hS1) | (with_reducible exact Nat.le_add_right_of_le hS1) | (with_reducible exact hS2) | (with_reducible exact Nat.le_add_right_of_le hS2))))) | (with_reducible refine turn_put3 ?_ ?_ _ _ _; rotate_left 1; focus (first | (first | (with_reducible exact Nat.le_refl _) | (with_reducible exact Nat.le_add_right _ _) | (with_reducible exact hS1) | (with_reducible exact Nat.le_add_right_of_le hS1) | (with_reducible exact hS2) | (with_reducible exact Nat.le_add_right_of_le hS2)) | (simp; done) | (simp; (first | (with_reducible exact Nat.le_refl _) | (with_reducible exact Nat.le_add_right _ _) | (with_reducible exact hS1) | (with_reducible exact Nat.le_add_right_of_le hS1) | (with_reducible exact hS2) | (with_reducible exact Nat.le_add_right_of_le hS2))))) | (with_reducible refine turn_new ?_ _ ?_ _; rotate_left 1; focus (first | (first | (with_reducible exact Nat.le_refl _) | (with_reducible exact Nat.le_add_right _ _) | (with_reducible exact hS1) | (with_reducible exact Nat.le_add_right_of_le hS1) | (with_reducible exact hS2) | (with_reducible exact Nat.le_add_right_of_le hS2)) | (simp; done) | (simp; (first | (with_reducible exact Nat.le_refl _) | (with_reducible exact Nat.le_add_right _ _) | (with_reducible exact hS1) | (with_reducible exact Nat.le_add_right_of_le hS1) | (with_reducible exact hS2) | (with_reducible exact Nat.le_add_right_of_le hS2))))))))
          go_region_held3 (fun w' => w'.cell? ⟨bs, 0, none⟩ = some (.int .i64 3) ∧ w'.cell? ⟨bs, 1, none⟩ = some (.slice A 192 c) ∧ w'.cell? ⟨bs, 2, none⟩ = some (.slice A' 24 c') ∧ w'.cell? ⟨qb, n * 5, none⟩ = some (.int .i64 sq) ∧ w'.cell? ⟨qb, n * 5 + 1, none⟩ = some (.int .i64 bt) ∧ w'.cell? ⟨qb, n * 5 + 2, none⟩ = some (.int .i64 fi) ∧ w'.cell? ⟨qb, n * 5 + 3, none⟩ = some (.int .i64 la) ∧ w'.cell? ⟨qb, n * 5 + 4, none⟩ = some (.int .i64 wo))
            (first | (with_reducible exact pd) | (with_reducible exact ⟨p0, p1, p2, q0, q1, q2, q3, q4⟩) | (refine HS.out _ ?_; (repeat (first | (with_reducible exact hG2) | (with_reducible exact hG1) | (with_reducible exact hG0) | (with_reducible refine turn_drew ?_) | (with_reducible refine turn_alloc ?_ _) | (with_reducible refine turn_new5 ?_ ?_ _ _ _ _ _; rotate_left 1; focus (first | (first | (with_reducible exact Nat.le_refl _) | (with_reducible exact Nat.le_add_right _ _) | (with_reducible exact hS1) | (with_reducible exact Nat.le_add_right_of_le hS1) | (with_reducible exact hS2) | (with_reducible exact Nat.le_add_right_of_le hS2)) | (simp; done) | (simp; (first | (with_reducible exact Nat.le_refl _) | (with_reducible exact Nat.le_add_right _ _) | (with_reducible exact hS1) | (with_reducible exact Nat.le_add_right_of_le hS1) | (with_reducible exact hS2) | (with_reducible exact Nat.le_add_right_of_le hS2))))) | (with_reducible refine turn_put3 ?_ ?_ _ _ _; rotate_left 1; focus (first | (first | (with_reducible exact Nat.le_refl _) | (with_reducible exact Nat.le_add_right _ _) | (with_reducible exact hS1) | (with_reducible exact Nat.le_add_right_of_le hS1) | (with_reducible exact hS2) | (with_reducible exact Nat.le_add_right_of_le hS2)) | (simp; done) | (simp; (first | (with_reducible exact Nat.le_refl _) | (with_reducible exact Nat.le_add_right _ _) | (with_reducible exact hS1) | (with_reducible exact Nat.le_add_right_of_le hS1) | (with_reducible exact hS2) | (with_reducible exact Nat.le_add_right_of_le hS2))))) | (with_reducible refine turn_new ?_ _ ?_ _; rotate_left 1; focus (first | (first | (with_reducible exact Nat.le_refl _) | (with_reducible exact Nat.le_add_right _ _) | (with_reducible exact hS1) | (with_reducible exact Nat.le_add_right_of_le hS1) | (with_reducible exact hS2) | (with_reducible exact Nat.le_add_right_of_le hS2)) | (simp; done) | (simp; (first | (with_reducible exact Nat.le_refl _) | (with_reducible exact Nat.le_add_right _ _) | (with_reducible exact hS1) | (with_reducible exact Nat.le_add_right_of_le hS1) | (with_reducible exact hS2) | (with_reducible exact Nat.le_add_right_of_le hS2))))))); done))
            (first
              | (go_at_call 10; obtain ⟨s', nw', n', wd', F', e0, e1, e2, e3, e4, ad, er, hE, hY, hN⟩ := all_valX (3 : Nat) 192 (fun _ => 0) 24 G sq bt fi la wo (1 + v) (by decide) (by decide); refine ((N2.out _ ?_ ?_ (1 + v)).mono ?_); (focus ((repeat (first | (with_reducible exact hG2) | (with_reducible exact hG1) | (with_reducible exact hG0) | (with_reducible refine turn_drew ?_) | (with_reducible refine turn_alloc ?_ _) | (with_reducible refine turn_new5 ?_ ?_ _ _ _ _ _; rotate_left 1; focus (first | (first | (with_reducible exact Nat.le_refl _) | (with_reducible exact Nat.le_add_right _ _) | (with_reducible exact hS1) | (with_reducible exact Nat.le_add_right_of_le hS1) | (with_reducible exact hS2) | (with_reducible exact Nat.le_add_right_of_le hS2)) | (simp; done) | (simp; (first | (with_reducible exact Nat.le_refl _) | (with_reducible exact Nat.le_add_right _ _) | (with_reducible exact hS1) | (with_reducible exact Nat.le_add_right_of_le hS1) | (with_reducible exact hS2) | (with_reducible exact Nat.le_add_right_of_le hS2))))) | (with_reducible refine turn_put3 ?_ ?_ _ _ _; rotate_left 1; focus (first | (first | (with_reducible exact Nat.le_refl _) | (with_reducible exact Nat.le_add_right _ _) | (with_reducible exact hS1) | (with_reducible exact Nat.le_add_right_of_le hS1) | (with_reducible exact hS2) | (with_reducible exact Nat.le_add_right_of_le hS2)) | (simp; done) | (simp; (first | (with_reducible exact Nat.le_refl _) | (with_reducible exact Nat.le_add_right _ _) | (with_reducible exact hS1) | (with_reducible exact Nat.le_add_right_of_le hS1) | (with_reducible exact hS2) | (with_reducible exact Nat.le_add_right_of_le hS2))))) | (with_reducible refine turn_new ?_ _ ?_ _; rotate_left 1; focus (first | (first | (with_reducible exact Nat.le_refl _) | (with_reducible exact Nat.le_add_right _ _) | (with_reducible exact hS1) | (with_reducible exact Nat.le_add_right_of_le hS1) | (with_reducible exact hS2) | (with_reducible exact Nat.le_add_right_of_le hS2)) | (simp; done) | (simp; (first | (with_reducible exact Nat.le_refl _) | (with_reducible exact Nat.le_add_right _ _) | (with_reducible exact hS1) | (with_reducible exact Nat.le_add_right_of_le hS1) | (with_reducible exact hS2) | (with_reducible exact Nat.le_add_right_of_le hS2))))))); done)); (focus ((repeat (first | (with_reducible exact hK2) | (with_reducible exact hK1) | (with_reducible exact hK0) | (with_reducible refine DeckP.drew ?_) | (with_reducible refine DeckP.alloc9 ?_ _))); done)); rintro e wn2 ⟨hax, hK2, hG2, hbz⟩; obtain ⟨B1, k1, B1', k1', rfl, ho, ht, hb2⟩ := hN _ _ _ hax; obtain ⟨bx, hbx, ho, ht⟩ := own_named ho ht; (try simp at hbx); have hS2 := hG2.size; (try (refine absorb9 (P := Blk wn2 Z0.heap.size 30 #[.int .i64 0, .slice none 0 0, .slice none 0 0]) ?_ ?_; (focus (refine Blk.next ?_ hb2; (repeat (first | (with_reducible exact sa1) | (with_reducible refine Blk.drew9 ?_) | (with_reducible refine Blk.alloc ?_ _))); done)); intro sa)); (try have saz := sa.lt); (try have sa0 := sa.cell 0); (try have saf0 := sa.frozen 0); (try have sa1 := sa.cell 1); (try have saf1 := sa.frozen 1); (try have sa2 := sa.cell 2); (try have saf2 := sa.frozen 2); (try simp at sa0 sa1 sa2); (try (refine absorb9 (P := Blk wn2 (Z0.heap.size + 1) 30 #[.int .i64 0, .slice none 0 0, .slice none 0 0]) ?_ ?_; (focus (refine Blk.next ?_ hb2; (repeat (first | (with_reducible exact sb1) | (with_reducible refine Blk.drew9 ?_) | (with_reducible refine Blk.alloc ?_ _))); done)); intro sb)); (try have sbz := sb.lt); (try have sb0 := sb.cell 0); (try have sbf0 := sb.frozen 0); (try have sb1 := sb.cell 1); (try have sbf1 := sb.frozen 1); (try have sb2 := sb.cell 2); (try have sbf2 := sb.frozen 2); (try simp at sb0 sb1 sb2); (try (refine absorb9 (P := Blk wn2 Z0.heap.size 35 #[.int .i64 0, .int .i64 0, .int .i64 0, .int .i64 0, .int .i64 0]) ?_ ?_; (focus (refine Blk.next ?_ hb2; (repeat (first | (with_reducible exact ia1) | (with_reducible refine Blk.drew9 ?_) | (with_reducible refine Blk.alloc ?_ _))); done)); intro ia)); (try have iaz := ia.lt); (try have ia0 := ia.cell 0); (try have iaf0 := ia.frozen 0); (try have ia1 := ia.cell 1); (try have iaf1 := ia.frozen 1); (try have ia2 := ia.cell 2); (try have iaf2 := ia.frozen 2); (try have ia3 := ia.cell 3); (try have iaf3 := ia.frozen 3); (try have ia4 := ia.cell 4); (try have iaf4 := ia.frozen 4); (try simp at ia0 ia1 ia2 ia3 ia4); (try (refine absorb9 (P := Blk wn2 (Z0.heap.size + 1) 35 #[.int .i64 0, .int .i64 0, .int .i64 0, .int .i64 0, .int .i64 0]) ?_ ?_; (focus (refine Blk.next ?_ hb2; (repeat (first | (with_reducible exact ib1) | (with_reducible refine Blk.drew9 ?_) | (with_reducible refine Blk.alloc ?_ _))); done)); intro ib)); (try have ibz := ib.lt); (try have ib0 := ib.cell 0); (try have ibf0 := ib.frozen 0); (try have ib1 := ib.cell 1); (try have ibf1 := ib.frozen 1); (try have ib2 := ib.cell 2); (try have ibf2 := ib.frozen 2); (try have ib3 := ib.cell 3); (try have ibf3 := ib.frozen 3); (try have ib4 := ib.cell 4); (try have ibf4 := ib.frozen 4); (try simp at ib0 ib1 ib2 ib3 ib4); (try (refine absorb9 (P := Blk wn2 wn1.heap.size 30 #[.int .i64 0, .slice none 0 0, .slice none 0 0]) ?_ ?_; (focus (refine Blk.next ?_ hb2; (repeat (first | (with_reducible exact Blk.new _ _ _) | (with_reducible refine Blk.drew9 ?_) | ((with_reducible refine Blk.newAt _ _ _ _ ?_); (focus (simp; done))) | (with_reducible refine Blk.alloc ?_ _))); done)); intro sc)); (try have scz := sc.lt); (try have sc0 := sc.cell 0); (try have scf0 := sc.frozen 0); (try have sc1 := sc.cell 1); (try have scf1 := sc.frozen 1); (try have sc2 := sc.cell 2); (try have scf2 := sc.frozen 2); (try simp at sc0 sc1 sc2); (try (refine absorb9 (P := Blk wn2 (wn1.heap.size + 1) 30 #[.int .i64 0, .slice none 0 0, .slice none 0 0]) ?_ ?_; (focus (refine Blk.next ?_ hb2; (repeat (first | (with_reducible exact Blk.new _ _ _) | (with_reducible refine Blk.drew9 ?_) | ((with_reducible refine Blk.newAt _ _ _ _ ?_); (focus (simp; done))) | (with_reducible refine Blk.alloc ?_ _))); done)); intro sd)); (try have sdz := sd.lt); (try have sd0 := sd.cell 0); (try have sdf0 := sd.frozen 0); (try have sd1 := sd.cell 1); (try have sdf1 := sd.frozen 1); (try have sd2 := sd.cell 2); (try have sdf2 := sd.frozen 2); (try simp at sd0 sd1 sd2); (try (refine absorb9 (P := Blk wn2 wn1.heap.size 35 #[.int .i64 0, .int .i64 0, .int .i64 0, .int .i64 0, .int .i64 0]) ?_ ?_; (focus (refine Blk.next ?_ hb2; (repeat (first | (with_reducible exact Blk.new _ _ _) | (with_reducible refine Blk.drew9 ?_) | ((with_reducible refine Blk.newAt _ _ _ _ ?_); (focus (simp; done))) | (with_reducible refine Blk.alloc ?_ _))); done)); intro ic)); (try have icz := ic.lt); (try have ic0 := ic.cell 0); (try have icf0 := ic.frozen 0); (try have ic1 := ic.cell 1); (try have icf1 := ic.frozen 1); (try have ic2 := ic.cell 2); (try have icf2 := ic.frozen 2); (try have ic3 := ic.cell 3); (try have icf3 := ic.frozen 3); (try have ic4 := ic.cell 4); (try have icf4 := ic.frozen 4); (try simp at ic0 ic1 ic2 ic3 ic4); (try (refine absorb9 (P := Blk wn2 (wn1.heap.size + 1) 35 #[.int .i64 0, .int .i64 0, .int .i64 0, .int .i64 0, .int .i64 0]) ?_ ?_; (focus (refine Blk.next ?_ hb2; (repeat (first | (with_reducible exact Blk.new _ _ _) | (with_reducible refine Blk.drew9 ?_) | ((with_reducible refine Blk.newAt _ _ _ _ ?_); (focus (simp; done))) | (with_reducible refine Blk.alloc ?_ _))); done)); intro id)); (try have idz := id.lt); (try have id0 := id.cell 0); (try have idf0 := id.frozen 0); (try have id1 := id.cell 1); (try have idf1 := id.frozen 1); (try have id2 := id.cell 2); (try have idf2 := id.frozen 2); (try have id3 := id.cell 3); (try have idf3 := id.frozen 3); (try have id4 := id.cell 4); (try have idf4 := id.frozen 4); (try simp at id0 id1 id2 id3 id4))
              | (go_at_call 9; refine (N1.out _ ?_ ?_).mono ?_; (focus ((repeat (first | (with_reducible exact hG2) | (with_reducible exact hG1) | (with_reducible exact hG0) | (with_reducible refine turn_drew ?_) | (with_reducible refine turn_alloc ?_ _) | (with_reducible refine turn_new5 ?_ ?_ _ _ _ _ _; rotate_left 1; focus (first | (first | (with_reducible exact Nat.le_refl _) | (with_reducible exact Nat.le_add_right _ _) | (with_reducible exact hS1) | (with_reducible exact Nat.le_add_right_of_le hS1) | (with_reducible exact hS2) | (with_reducible exact Nat.le_add_right_of_le hS2)) | (simp; done) | (simp; (first | (with_reducible exact Nat.le_refl _) | (with_reducible exact Nat.le_add_right _ _) | (with_reducible exact hS1) | (with_reducible exact Nat.le_add_right_of_le hS1) | (with_reducible exact hS2) | (with_reducible exact Nat.le_add_right_of_le hS2))))) | (with_reducible refine turn_put3 ?_ ?_ _ _ _; rotate_left 1; focus (first | (first | (with_reducible exact Nat.le_refl _) | (with_reducible exact Nat.le_add_right _ _) | (with_reducible exact hS1) | (with_reducible exact Nat.le_add_right_of_le hS1) | (with_reducible exact hS2) | (with_reducible exact Nat.le_add_right_of_le hS2)) | (simp; done) | (simp; (first | (with_reducible exact Nat.le_refl _) | (with_reducible exact Nat.le_add_right _ _) | (with_reducible exact hS1) | (with_reducible exact Nat.le_add_right_of_le hS1) | (with_reducible exact hS2) | (with_reducible exact Nat.le_add_right_of_le hS2))))) | (with_reducible refine turn_new ?_ _ ?_ _; rotate_left 1; focus (first | (first | (with_reducible exact Nat.le_refl _) | (with_reducible exact Nat.le_add_right _ _) | (with_reducible exact hS1) | (with_reducible exact Nat.le_add_right_of_le hS1) | (with_reducible exact hS2) | (with_reducible exact Nat.le_add_right_of_le hS2)) | (simp; done) | (simp; (first | (with_reducible exact Nat.le_refl _) | (with_reducible exact Nat.le_add_right _ _) | (with_reducible exact hS1) | (with_reducible exact Nat.le_add_right_of_le hS1) | (with_reducible exact hS2) | (with_reducible exact Nat.le_add_right_of_le hS2))))))); done)); (focus ((repeat (first | (with_reducible exact hK2) | (with_reducible exact hK1) | (with_reducible exact hK0) | (with_reducible refine DeckP.drew ?_) | (with_reducible refine DeckP.alloc9 ?_ _))); done)); rintro e wn1 ⟨v, rfl, v0, v1, hK1, hg1, hG1⟩; have hS1 := hG1.size; (try have hd1 : Z0.heap.size ≠ wn1.heap.size := by (have := hg1.size; simp at this; omega)); (try have hd2 : wn1.heap.size ≠ Z0.heap.size := by (have := hg1.size; simp at this; omega)); (try have hT0 : Z0.heap.size < wn1.heap.size := by (have := hg1.size; simp at this; omega)); (try have hT1 : Z0.heap.size + 1 < wn1.heap.size := by (have := hg1.size; simp at this; omega)); (try (refine absorb9 (P := Blk wn1 Z0.heap.size 30 #[.int .i64 0, .slice none 0 0, .slice none 0 0]) ?_ ?_; (focus (refine Blk.turn ?_ hg1 (by omega); (repeat (first | (with_reducible exact Blk.new _ _ _) | (with_reducible refine Blk.drew9 ?_) | ((with_reducible refine Blk.newAt _ _ _ _ ?_); (focus (simp; done))) | (with_reducible refine Blk.alloc ?_ _))); done)); intro sa1)); (try (refine absorb9 (P := Blk wn1 (Z0.heap.size + 1) 30 #[.int .i64 0, .slice none 0 0, .slice none 0 0]) ?_ ?_; (focus (refine Blk.turn ?_ hg1 (by omega); (repeat (first | (with_reducible exact Blk.new _ _ _) | (with_reducible refine Blk.drew9 ?_) | ((with_reducible refine Blk.newAt _ _ _ _ ?_); (focus (simp; done))) | (with_reducible refine Blk.alloc ?_ _))); done)); intro sb1)); (try (refine absorb9 (P := Blk wn1 Z0.heap.size 35 #[.int .i64 0, .int .i64 0, .int .i64 0, .int .i64 0, .int .i64 0]) ?_ ?_; (focus (refine Blk.turn ?_ hg1 (by omega); (repeat (first | (with_reducible exact Blk.new _ _ _) | (with_reducible refine Blk.drew9 ?_) | ((with_reducible refine Blk.newAt _ _ _ _ ?_); (focus (simp; done))) | (with_reducible refine Blk.alloc ?_ _))); done)); intro ia1)); (try (refine absorb9 (P := Blk wn1 (Z0.heap.size + 1) 35 #[.int .i64 0, .int .i64 0, .int .i64 0, .int .i64 0, .int .i64 0]) ?_ ?_; (focus (refine Blk.turn ?_ hg1 (by omega); (repeat (first | (with_reducible exact Blk.new _ _ _) | (with_reducible refine Blk.drew9 ?_) | ((with_reducible refine Blk.newAt _ _ _ _ ?_); (focus (simp; done))) | (with_reducible refine Blk.alloc ?_ _))); done)); intro ib1))))
          all_goals
            have HN9 := Lib.hid hN
            have HY9 := Lib.hid hY
            have HE9 := Lib.hid hE
            clear hN hY hE hax
            go_wp2
            go_meet
            refine ⟨v, s', nw', n', wd', F', e0, e1, e2, e3, e4, ad, er, _, _, B1, k1, B1', k1', v0, v1, HE9.out, HY9.out, rfl, rfl, rfl, rfl, ?_, ?_, ?_, ?_, ?_, ?_, ?_, ?_, ?_⟩
            · first | omega | (simp; done) | (simp; omega)
            · first | omega | (simp; done) | (simp; omega)
            · first | omega | (simp; done) | (simp; omega)
            · (repeat (first | (with_reducible exact Blk.new _ _ _) | (with_reducible refine Blk.drew9 ?_) | ((with_reducible refine Blk.newAt _ _ _ _ ?_); (focus (simp; done))) | (with_reducible refine Blk.alloc ?_ _) | (with_reducible exact sa.set3 _ _ _) | (with_reducible exact sb.set3 _ _ _) | (with_reducible exact sc.set3 _ _ _) | (with_reducible exact sd.set3 _ _ _) | (with_reducible refine Blk.turn5 ?_ ?_ _ _ _ _ _; rotate_left 1; (focus (first | omega | (simp; done) | (simp; omega))))))
            · (repeat (first | (with_reducible exact Blk.new _ _ _) | (with_reducible refine Blk.drew9 ?_) | ((with_reducible refine Blk.newAt _ _ _ _ ?_); (focus (simp; done))) | (with_reducible refine Blk.alloc ?_ _) | (with_reducible exact ia.set5 _ _ _ _ _) | (with_reducible exact (ia.far3 (by omega) _ _ _).set5 _ _ _ _ _) | (with_reducible exact ib.set5 _ _ _ _ _) | (with_reducible exact (ib.far3 (by omega) _ _ _).set5 _ _ _ _ _) | (with_reducible exact ic.set5 _ _ _ _ _) | (with_reducible exact (ic.far3 (by omega) _ _ _).set5 _ _ _ _ _) | (with_reducible exact id.set5 _ _ _ _ _) | (with_reducible exact (id.far3 (by omega) _ _ _).set5 _ _ _ _ _) | (with_reducible refine Blk.far3 ?_ ?_ _ _ _; rotate_left 1; (focus (first | omega | (simp; done) | (simp; omega))))))
            · refine Own.lower (base := bx) (base' := Z0.heap.size) ?_ (by omega)
              (repeat (first | (with_reducible exact ho) | (with_reducible refine Own.drew ?_) | (with_reducible refine Own.alloc9 ?_ _) | (with_reducible refine Own.put3 ?_ ?_ _ _ _; rotate_left 1; focus (first | omega | (simp; done) | (simp; omega))) | (with_reducible refine Own.put5 ?_ ?_ _ _ _ _ _; rotate_left 1; focus (first | omega | (simp; done) | (simp; omega)))))
            · refine OwnT.lower (base := bx) (base' := Z0.heap.size) ?_ (by omega)
              (repeat (first | (with_reducible exact ht) | (with_reducible refine OwnT.drew ?_) | (with_reducible refine OwnT.alloc9 ?_ _) | (with_reducible refine OwnT.put3 ?_ ?_ _ _ _; rotate_left 1; focus (first | omega | (simp; done) | (simp; omega))) | (with_reducible refine OwnT.put5 ?_ ?_ _ _ _ _ _; rotate_left 1; focus (first | omega | (simp; done) | (simp; omega)))))
            · (repeat (first | (with_reducible exact hK2) | (with_reducible refine DeckP.drew ?_) | (with_reducible refine DeckP.alloc9 ?_ _) | (with_reducible refine DeckP.put3 ?_ ?_ _ _ _; rotate_left 1; focus (first | omega | (simp; done) | (simp; omega))) | (with_reducible refine DeckP.put5 ?_ ?_ _ _ _ _ _; rotate_left 1; focus (first | omega | (simp; done) | (simp; omega)))))
            · (repeat (first | (with_reducible exact hG2) | (with_reducible exact hG1) | (with_reducible exact hG0) | (with_reducible refine turn_drew ?_) | (with_reducible refine turn_alloc ?_ _) | (with_reducible refine turn_new5 ?_ ?_ _ _ _ _ _; rotate_left 1; focus (first | (first | (with_reducible exact Nat.le_refl _) | (with_reducible exact Nat.le_add_right _ _) | (with_reducible exact hS1) | (with_reducible exact Nat.le_add_right_of_le hS1) | (with_reducible exact hS2) | (with_reducible exact Nat.le_add_right_of_le hS2)) | (simp; done) | (simp; (first | (with_reducible exact Nat.le_refl _) | (with_reducible exact Nat.le_add_right _ _) | (with_reducible exact hS1) | (with_reducible exact Nat.le_add_right_of_le hS1) | (with_reducible exact hS2) | (with_reducible exact Nat.le_add_right_of_le hS2))))) | (with_reducible refine turn_put3 ?_ ?_ _ _ _; rotate_left 1; focus (first | (first | (with_reducible exact Nat.le_refl _) | (with_reducible exact Nat.le_add_right _ _) | (with_reducible exact hS1) | (with_reducible exact Nat.le_add_right_of_le hS1) | (with_reducible exact hS2) | (with_reducible exact Nat.le_add_right_of_le hS2)) | (simp; done) | (simp; (first | (with_reducible exact Nat.le_refl _) | (with_reducible exact Nat.le_add_right _ _) | (with_reducible exact hS1) | (with_reducible exact Nat.le_add_right_of_le hS1) | (with_reducible exact hS2) | (with_reducible exact Nat.le_add_right_of_le hS2))))) | (with_reducible refine turn_new ?_ _ ?_ _; rotate_left 1; focus (first | (first | (with_reducible exact Nat.le_refl _) | (with_reducible exact Nat.le_add_right _ _) | (with_reducible exact hS1) | (with_reducible exact Nat.le_add_right_of_le hS1) | (with_reducible exact hS2) | (with_reducible exact Nat.le_add_right_of_le hS2)) | (simp; done) | (simp; (first | (with_reducible exact Nat.le_refl _) | (with_reducible exact Nat.le_add_right _ _) | (with_reducible exact hS1) | (with_reducible exact Nat.le_add_right_of_le hS1) | (with_reducible exact hS2) | (with_reducible exact Nat.le_add_right_of_le hS2)))))))
        case rest =>
          obtain ⟨Z, rfl⟩ : ∃ Z, Z = wc := ⟨_, rfl⟩
          obtain ⟨v, s', nw', n', wd', F', e0, e1, e2, e3, e4, ad, er, b9, b10, B1, k1, B1', k1', v0, v1, hE, hY, rfl, rfl, rfl, rfl, z9, z10, z910, bx9, bx10, ho, ht, hk', hg⟩ := hcut
          dsimp only at hE hY
          obtain ⟨hfit, hzero⟩ := HIOK.out.fits (nw := 192) (by decide)
          dsimp only at hfit hzero
          have HINC := Lib.hid (show incB (3 : Nat) 192 (fun _ => 0) 24 G sq bt fi la wo = true from incB_mk HV.out (by rw [Int.toNat_natCast]; exact hfit))
          have HZERO := Lib.hid hzero
          have BS2 := Lib.hid (BS1.out.turn hg (by omega))
          have HQ2 := Lib.hid (HQ1.out.turn hg (by omega))
          have HB2 := Lib.hid (below_turn HB1.out hg (by have := HDKE.out; omega))
          have HDK2 := Lib.hid hk'
          have zbZ := hg.size
          clear hG0 hfit hzero hk' hg p0 p1 p2 q0 q1 q2 q3 q4 HS N1 N2 hK0 w20 BS1 HQ1 HB1 HO1 HT1
          rcases (show er ≠ 0 ∨ er = 0 by omega) with her | her
          · obtain ⟨h4, _⟩ := allE_four hE her HINC.out (by omega) (by omega) HZERO.out
            subst h4
            have HD9 := Lib.hid (HD.out.next HB2.out)
            clear bx9 bx10 ho ht hE hY her
            go_wp2_with (go_at_call 5; refine (awake9_any _ HD9.out).mono ?_; rintro e w6 ⟨rfl, b6⟩; have HB6 := Lib.hid b6; clear b6)
            go_ret
            exact ⟨rfl, below_next HB2.out (by have := HB2.out.size; omega) HB6.out⟩
          subst her
          obtain ⟨rfl, rfl, rfl, rfl, rfl, rfl, rfl, rfl, rfl, rfl, rfl⟩ := hY rfl
          obtain ⟨W, D, hW, hD', d1, d2, _, hvN, hfN, hgr⟩ := all_valid hE
          subst hW
          rw [hD'] at ht bx10 hvN hfN hgr ⊢
          rw [Int.toNat_natCast, Int.toNat_natCast]
          obtain ⟨x, hx⟩ : ∃ x, x = allG (3 : Nat) 24 G sq bt fi la W D := ⟨_, rfl⟩
          rw [← hx] at ht bx10 hvN hfN hgr ⊢
          obtain ⟨G2, fi2, la2⟩ := x
          dsimp only at ht bx10 hvN hfN hgr ⊢
          have hst := fits_stB hfN.1
          obtain ⟨W2, hW2⟩ : ∃ x, x = W + D := ⟨_, rfl⟩
          have hcov := ceilV_cover (W + D) 3
          have hwd : (W : Int) + (D : Int) = (W2 : Int) := by omega
          rw [hwd] at bx10
          rw [← hW2] at hfN hgr hcov
          obtain ⟨p, hfi2, hpn, _, _, _⟩ := fits_first hfN (by omega)
          subst hfi2
          obtain ⟨y, r, hay, hyn, hrz, hyo⟩ := addr_frame hvN hgr.2.1 hst (show W < ceilV W2 3 * 2 ^ 3 by omega)
          obtain ⟨AD, hAD⟩ : ∃ z, z = addrP G2 3 p W := ⟨_, rfl⟩
          rw [← hAD] at hay ⊢
          have had0 : 0 ≤ AD ∧ AD < 192 := by omega
          have had1 : AD / 8 = (y : Int) := by omega
          have had2 : AD / 2 ^ 3 = (y : Int) := by omega
          have had3 : ¬ AD < 0 := by omega
          have hyi : 0 ≤ (y : Int) ∧ (y : Int) < 24 := by omega
          have hyi2 : ¬ (24 : Int) ≤ (y : Int) := by omega
          have hsq50 : sq ≤ 50 ∧ bt ≤ 2 := by obtain ⟨⟨_, h2, _, h4, _⟩, _⟩ := HIOK.out; exact ⟨h2, h4⟩
          have HNEW := Lib.hid (show ∀ j, j < 3 → IncOk G2 24 3 ((fun j => if j = n then (⟨sq, bt, p, la2, W2⟩ : IncR) else I j) j) ∧ ((fun j => if j = n then (⟨sq, bt, p, la2, W2⟩ : IncR) else I j) j).sq = (j : Int) + 1 from fun j hj => by
            dsimp only
            by_cases e : j = n
            · rw [if_pos e]
              exact ⟨IncOk.of_fits hfN (by omega) hsq50.1 hsq50.2, by rw [e]; exact HISQ.out⟩
            · rw [if_neg e]
              obtain ⟨h1, h2⟩ := HI.out j hj
              exact ⟨h1.grown hgr HV.out.fv (by rw [h2, HISQ.out]; omega), h2⟩)
          have HVN := Lib.hid hvN
          obtain ⟨tb, tof, hB1, hbt⟩ := ht.tab.base_ (by decide)
          subst hB1
          obtain ⟨zt, t0, t1, t2⟩ := ht.tab.cells y hyn
          rw [hyo] at t0
          obtain ⟨q0, q1, q2, q3, q4⟩ := HQ2.out.cells hn3
          rw [← HIN.out] at q0 q1 q2 q3 q4
          dsimp only at q0 q1 q2 q3 q4
          have qf0 := HQ2.out.frozen (n * 5)
          have qf1 := HQ2.out.frozen (n * 5 + 1)
          have qf2 := HQ2.out.frozen (n * 5 + 2)
          have qf3 := HQ2.out.frozen (n * 5 + 3)
          have qf4 := HQ2.out.frozen (n * 5 + 4)
          have x0 := bx9.cell 0
          have x1 := bx9.cell 1
          have x2 := bx9.cell 2
          have y0 := bx10.cell 0
          have y1 := bx10.cell 1
          have y2 := bx10.cell 2
          have y3 := bx10.cell 3
          have y4 := bx10.cell 4
          have p0 := BS2.out.cell 0
          have p1 := BS2.out.cell 1
          have p2 := BS2.out.cell 2
          have pf0 := BS2.out.frozen 0
          have pf1 := BS2.out.frozen 1
          have pf2 := BS2.out.frozen 2
          simp at x0 x1 x2 y0 y1 y2 y3 y4 p0 p1 p2
          have zx9 : b9 < Z.heap.size := bx9.lt
          have zx10 : b10 < Z.heap.size := bx10.lt
          have zs2 : bs < Z.heap.size := BS2.out.lt
          have zq2 : qb < Z.heap.size := HQ2.out.lt
          have n1 : b9 ≠ bs := by omega
          have n2 : b10 ≠ bs := by omega
          have n3 : b9 ≠ qb := by omega
          have n4 : b10 ≠ qb := by omega
          obtain ⟨P, hP⟩ : ∃ P, P = (((((((Z.setCell ⟨bs, 0, none⟩ (.int .i64 3)).setCell ⟨bs, 1, none⟩ (.slice B1 192 k1)).setCell ⟨bs, 2, none⟩ (.slice (some ⟨tb, tof, none⟩) 24 k1')).setCell ⟨qb, n * 5, none⟩ (.int .i64 sq)).setCell ⟨qb, n * 5 + 1, none⟩ (.int .i64 bt)).setCell ⟨qb, n * 5 + 2, none⟩ (.int .i64 p)).setCell ⟨qb, n * 5 + 3, none⟩ (.int .i64 la2)).setCell ⟨qb, n * 5 + 4, none⟩ (.int .i64 W2) := ⟨_, rfl⟩
          have BSP := Lib.hid (show Blk P bs 30 #[.int .i64 3, .slice B1 192 k1, .slice (some ⟨tb, tof, none⟩) 24 k1'] by rw [hP]; exact ((((((BS2.out.set3 _ _ _).far (p := ⟨qb, n * 5, none⟩) (fun e => hne e.symm) _).far (p := ⟨qb, n * 5 + 1, none⟩) (fun e => hne e.symm) _).far (p := ⟨qb, n * 5 + 2, none⟩) (fun e => hne e.symm) _).far (p := ⟨qb, n * 5 + 3, none⟩) (fun e => hne e.symm) _).far (p := ⟨qb, n * 5 + 4, none⟩) (fun e => hne e.symm) _))
          have HQP := Lib.hid (show QRow P qb (fun j => if j = n then (⟨sq, bt, p, la2, W2⟩ : IncR) else I j) by rw [hP]; exact (HQ2.out.far3 hne _ _ _).store hn3 ⟨sq, bt, p, la2, W2⟩)
          have HOP := Lib.hid (show Own P Z0.heap.size B1 192 k1 (fun _ => 0) by rw [hP]; exact (((((ho.put3 zs1 _ _ _).far (p := ⟨qb, n * 5, none⟩) zq1 _).far (p := ⟨qb, n * 5 + 1, none⟩) zq1 _).far (p := ⟨qb, n * 5 + 2, none⟩) zq1 _).far (p := ⟨qb, n * 5 + 3, none⟩) zq1 _).far (p := ⟨qb, n * 5 + 4, none⟩) zq1 _)
          have HTP := Lib.hid (show OwnT P Z0.heap.size (some ⟨tb, tof, none⟩) 24 k1' G2 by rw [hP]; exact (((((ht.put3 zs1 _ _ _).far (p := ⟨qb, n * 5, none⟩) zq1 _).far (p := ⟨qb, n * 5 + 1, none⟩) zq1 _).far (p := ⟨qb, n * 5 + 2, none⟩) zq1 _).far (p := ⟨qb, n * 5 + 3, none⟩) zq1 _).far (p := ⟨qb, n * 5 + 4, none⟩) zq1 _)
          have HDP := Lib.hid (show DeckP P dk by rw [hP]; exact (((((HDK2.out.put3 hdl.1 _ _ _).far (p := ⟨qb, n * 5, none⟩) hdl.2 _).far (p := ⟨qb, n * 5 + 1, none⟩) hdl.2 _).far (p := ⟨qb, n * 5 + 2, none⟩) hdl.2 _).far (p := ⟨qb, n * 5 + 3, none⟩) hdl.2 _).far (p := ⟨qb, n * 5 + 4, none⟩) hdl.2 _)
          have hwq : w.heap.size ≤ qb ∧ w.heap.size ≤ bs := by have := HDKE.out; omega
          have HBP := Lib.hid (show Below w.heap.size w P by rw [hP]; exact (((((below_put3 HB2.out hwq.2 _ _ _).setCell (p := ⟨qb, n * 5, none⟩) hwq.1 _).setCell (p := ⟨qb, n * 5 + 1, none⟩) hwq.1 _).setCell (p := ⟨qb, n * 5 + 2, none⟩) hwq.1 _).setCell (p := ⟨qb, n * 5 + 3, none⟩) hwq.1 _).setCell (p := ⟨qb, n * 5 + 4, none⟩) hwq.1 _)
          have zP : P.heap.size = Z.heap.size := by rw [hP]; simp
          have HP := Lib.hid hP
          clear hP bx9 bx10 ho ht hE hY hvN hfN hgr hst hcov hx hAD hay hW2 hD' d1 d2 hyo hbt BS2 HQ2 HB2 HDK2
          go_upto_region 16 with fail
          go_region
          go_upto_region 18 with fail
          go_region
          go_upto_region 19 with fail
          rw [← HP.out]
          clear x0 x1 x2 y0 y1 y2 y3 y4 p0 p1 p2 pf0 pf1 pf2 q0 q1 q2 q3 q4 qf0 qf1 qf2 qf3 qf4 t0 t1 t2 zt
          have HIJ := Lib.hid (show ∀ j, j < 3 → ∃ ij : IncR, ij = (fun j => if j = n then (⟨sq, bt, p, la2, W2⟩ : IncR) else I j) j ∧ incB (3 : Nat) 192 (fun _ => 0) 24 G2 ij.sq ij.bt ij.fi ij.la ij.wo = true from fun j hj => ⟨_, rfl, incB_mk HVN.out (by rw [Int.toNat_natCast]; exact ((HNEW.out j hj).1.fits (nw := 192) (by decide)).1)⟩)
          go_wp2_with fail
          go_loopw [15, 95] (fun _ i wr2 => ∃ j : Nat, j ≤ 3 ∧ i = .int .i64 j ∧ Below P.heap.size P wr2) (fun _ i _ => 3 - (intOf i).toNat)
          case atStart => exact ⟨0, by omega, rfl, (Below.refl _ _).drew.drew⟩
          case round =>
            obtain ⟨W0, rfl⟩ : ∃ W0, W0 = wr := ⟨_, rfl⟩
            obtain ⟨j, hj, rfl, hb⟩ := hrel
            by_cases hjl : j < 3
            · obtain ⟨ij, hij, hinc⟩ := HIJ.out j hjl
              obtain ⟨u0, u1, u2, u3, u4⟩ := (HQP.out.next hb).cells hjl
              rw [← hij] at u0 u1 u2 u3 u4
              obtain ⟨g0, g1, g2, g3, g4⟩ := ij
              dsimp only at u0 u1 u2 u3 u4 hinc
              have hj2 : 0 ≤ (j : Int) ∧ (j : Int) < 3 := by omega
              have zqW : qb < W0.heap.size := (HQP.out.next hb).lt
              obtain ⟨W1, hW1⟩ : ∃ W, W = W0.alloc (.cells #[.int .i64 g0, .int .i64 g1, .int .i64 g2, .int .i64 g3, .int .i64 g4] 35) := ⟨_, rfl⟩
              have hbw : Below P.heap.size P W1 := by rw [hW1]; exact below_alloc9 hb _
              have BW := Lib.hid (show Blk W1 W0.heap.size 35 #[.int .i64 g0, .int .i64 g1, .int .i64 g2, .int .i64 g3, .int .i64 g4] by rw [hW1]; exact Blk.new _ _ _)
              have BSW := Lib.hid (BSP.out.next hbw)
              have HAW := Lib.hid (HOP.out.below hbw).arr
              have HTW := Lib.hid (HTP.out.below hbw).tab
              have KW := Lib.hid hbw
              have HI9 := Lib.hid hinc
              have HW1 := Lib.hid hW1
              clear hW1 hbw hinc hij hb
              go_upto_region 22 with fail
              rw [← HW1.out]
              clear u0 u1 u2 u3 u4 zqW
              have x0 := BSW.out.cell 0
              have x1 := BSW.out.cell 1
              have x2 := BSW.out.cell 2
              have y0 := BW.out.cell 0
              have y1 := BW.out.cell 1
              have y2 := BW.out.cell 2
              have y3 := BW.out.cell 3
              have y4 := BW.out.cell 4
              have xz := BSW.out.lt
              have yz := BW.out.lt
              simp at x0 x1 x2 y0 y1 y2 y3 y4
              go_wp2_with (go_at_call 11; refine (refInc_any 3 B1 (some ⟨tb, tof, none⟩) 192 k1 24 k1' (fun _ => 0) G2 g0 g1 g2 g3 g4 W1 HAW.out HTW.out).mono ?_; rintro e W2' ⟨rfl, hb9⟩; rw [show incB 3 192 (fun _ => 0) 24 G2 g0 g1 g2 g3 g4 = true from HI9.out])
              exact ⟨⟨j + 1, by omega, by go_num, below_next KW.out (Nat.le_refl _) hb9⟩, by simp [intOf]; omega⟩
            · obtain rfl : j = 3 := by omega
              have REL := Lib.hid (show AprAt dk bs qb w W0 from ⟨Z0.heap.size, G2, _, B1, k1, _, k1', HDP.out.next hb, zd1, by have := hb.size; omega, BSP.out.next hb, HQP.out.next hb, HOP.out.below hb, HTP.out.below hb, HVN.out, HNEW.out, below_next HBP.out (by have := HBP.out.size; omega) hb⟩)
              clear hb
              go_wp2
              exact ⟨⟨k + 1, by omega, by go_num, REL.out⟩, by simp [intOf]; omega⟩
end Go.Proofs.YthcfcciemjkilaaDoor
