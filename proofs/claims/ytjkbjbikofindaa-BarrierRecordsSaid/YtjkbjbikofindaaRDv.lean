/-
  Package remset as it landed: Valid and Count.
-/
import Derived.Test.YtjkbjbikofindaaRDa
namespace Go.Proofs.Ytjkbjbikofindaa
open Go.RowKit
set_option maxRecDepth 100000
set_option linter.unusedVariables false

/-- A set that passes, but for the pair before it. -/
def PassS (x : SetR) : Prop := numP x.fr ∧ numP x.tg ∧ SltOk x.sl
theorem passS_iff (x : SetR) : PassS x ↔ SetOk x := Iff.rfl
theorem valS_pass (L : List SetR) : ValS L ↔ ∀ (t : Nat) (x : SetR), L[t]? = some x → PassS x ∧ ∀ y, 0 < t → L[t - 1]? = some y → bef y.fr y.tg x.fr x.tg := by
  constructor
  · rintro ⟨h1, h2⟩ t x hx
    exact ⟨h1 x (List.mem_iff_getElem?.2 ⟨t, hx⟩), fun y ht hy => (ascS_iff L).1 h2 (t - 1) y x hy (by rw [show t - 1 + 1 = t by omega]; exact hx)⟩
  · intro h
    refine ⟨fun x hx => ?_, (ascS_iff L).2 fun k a b ha hb => ?_⟩
    · obtain ⟨t, ht⟩ := List.mem_iff_getElem?.1 hx
      exact (h t x ht).1
    · exact (h (k + 1) b hb).2 a (by omega) (by rw [show k + 1 - 1 = k by omega]; exact ha)

set_option maxHeartbeats 8000000 in
theorem devValid_any (A : Option Addr) (c : Nat) (L : List SetR) (w : World) (hL : TArr w (Lt w.heap.size) A c L) : Calls Try.prog 28 #[.slice A L.length c] w (IffOf (ValS L) w) := by
  have HL := Lib.hid hL
  have hm := hL.2.1
  have hm' := hL.1
  simp only [maxLen] at hm
  clear hL
  go_enter Try.func28, Try.ntmps28
  go_wp2_with fail
  go_loopw [7] (fun i wr => ∃ t : Nat, t ≤ L.length ∧ i = .int .i64 t ∧ (∀ (j : Nat) (x : SetR), j < t → L[j]? = some x → PassS x ∧ ∀ y, 0 < j → L[j - 1]? = some y → bef y.fr y.tg x.fr x.tg) ∧ Below w.heap.size w wr) (fun i _ => L.length - (intOf i).toNat)
  case atStart => exact ⟨0, by omega, rfl, fun j x hj => by omega, Below.refl _ _⟩
  case round =>
    obtain ⟨t, ht, rfl, hno, hb⟩ := hrel
    have HN := Lib.hid hno
    have HB := Lib.hid hb
    clear hb hno
    by_cases hlt : t < L.length
    · have hlt2 : 0 ≤ (t : Int) ∧ (t : Int) < L.length := by omega
      obtain ⟨x, hx⟩ := nth_of hlt
      obtain ⟨b, o, A2, c2, rfl, _, hbl, c0, c1, c2', hS⟩ := (HL.out.next HB.out).at_ hx
      have HX := Lib.hid hx
      have HS := Lib.hid hS
      obtain ⟨q1, hq1⟩ : ∃ q, decide (numP x.fr) = q := ⟨_, rfl⟩
      obtain ⟨q2, hq2⟩ : ∃ q, decide (numP x.tg) = q := ⟨_, rfl⟩
      have HQ1 := Lib.hid hq1
      have HQ2 := Lib.hid hq2
      obtain ⟨W1, hW1⟩ : ∃ W1, W1 = wr.alloc (.cells #[.int .i64 x.fr, .int .i64 x.tg, .slice A2 x.sl.length c2] 57) := ⟨_, rfl⟩
      have hb1 : Below wr.heap.size wr W1 := by rw [hW1]; exact (Below.refl _ wr).alloc (Nat.le_refl _) _
      have HB1 := Lib.hid hb1
      have HBX := Lib.hid (show Blk W1 wr.heap.size 57 #[.int .i64 x.fr, .int .i64 x.tg, .slice A2 x.sl.length c2] by rw [hW1]; exact Blk.new _ _ _)
      have HW1 := Lib.hid hW1
      have HSS := Lib.hid (HS.out.next hb1)
      have hsm := hS.2.1
      have hsm' := hS.1
      simp only [maxLen] at hsm
      clear hx hS hW1 hb1 hq1 hq2
      go_upto_region 4 with fail
      rw [← HW1.out]
      have p0 : W1.cell? ⟨wr.heap.size, 0, none⟩ = some (.int .i64 x.fr) := HBX.out.cell 0
      have p1 : W1.cell? ⟨wr.heap.size, 1, none⟩ = some (.int .i64 x.tg) := HBX.out.cell 1
      have p2 : W1.cell? ⟨wr.heap.size, 2, none⟩ = some (.slice A2 x.sl.length c2) := HBX.out.cell 2
      have lp : wr.heap.size < W1.heap.size := HBX.out.lt
      clear c0 c1 c2'
      cases q1 with
      | false =>
        go_wp2_with (refine (isFrameT_any x.fr _).mono ?_; rintro e wn ⟨rfl, rfl⟩; rw [HQ1.out])
        go_ret
        exact ⟨false, rfl, iff_no fun h => (of_decide_eq_false HQ1.out) ((valS_pass L).1 h t x HX.out).1.1, HB.out.trans (HB1.out.mono HB.out.size)⟩
      | true =>
        cases q2 with
        | false =>
          go_wp2_with (first | (refine (isFrameT_any x.fr _).mono ?_; rintro e wn ⟨rfl, rfl⟩; rw [HQ1.out]) | (refine (isFrameT_any x.tg _).mono ?_; rintro e wn ⟨rfl, rfl⟩; rw [HQ2.out]))
          go_ret
          exact ⟨false, rfl, iff_no fun h => (of_decide_eq_false HQ2.out) ((valS_pass L).1 h t x HX.out).1.2.1, HB.out.trans (HB1.out.mono HB.out.size)⟩
        | true =>
          go_wp2_with (first | (refine (isFrameT_any x.fr _).mono ?_; rintro e wn ⟨rfl, rfl⟩; rw [HQ1.out]) | (refine (isFrameT_any x.tg _).mono ?_; rintro e wn ⟨rfl, rfl⟩; rw [HQ2.out]))
          refine (areSlots_any A2 c2 x.sl _ HSS.out).mono ?_
          rintro e wn ⟨q3, rfl, hq3, hb3⟩
          have HQ3 := Lib.hid hq3
          have HB3 := Lib.hid hb3
          have HBB := Lib.hid (HB.out.trans ((HB1.out.trans (hb3.mono HB1.out.size)).mono HB.out.size))
          clear hq3 hb3
          cases q3 with
          | false =>
            go_wp2_with fail
            go_ret
            exact ⟨false, rfl, iff_no fun h => absurd (HQ3.out.2 ((valS_pass L).1 h t x HX.out).1.2.2) (by decide), HBB.out⟩
          | true =>
            have HPS := Lib.hid (show PassS x from ⟨of_decide_eq_true HQ1.out, of_decide_eq_true HQ2.out, HQ3.out.1 rfl⟩)
            rcases Nat.eq_zero_or_pos t with h0 | h0
            · have hz : decide ((0 : Int) < (t : Int)) = false := decide_eq_false (by omega)
              have hz2 : decide (0 < t) = false := decide_eq_false (by omega)
              have H0 := Lib.hid h0
              have p0 : wn.drew.cell? ⟨wr.heap.size, 0, none⟩ = some (.int .i64 x.fr) := (HB3.out.cell (p := ⟨wr.heap.size, 0, none⟩) lp).trans p0
              clear h0 p1 p2
              go_upto_region 6 with fail
              refine wp_region_held_drew (S := (fun w' => w'.cell? ⟨wr.heap.size, 0, none⟩ = some (.int .i64 x.fr))) (by kernel_rfl) ?_ (fun hHeld => ?_)
              · exact p0
              (refine wpAnyH_take (i := 0) (v := ?_) rfl (by kernel_rfl) (by kernel_rfl) (by kernel_rfl) (fun _ _ _ h => h) (Or.inl ⟨by rfl, ?_⟩) (by assumption) ?_; rotate_left 1; (focus (intro w' hSw; (try dsimp only at hSw); go_simp; (try with_reducible rfl); done)); try simp only [Act.put, List.setIfInBounds_toArray, List.set_cons_zero, List.set_cons_succ, List.getElem_toArray, List.getElem_cons_zero])
              (refine wpAnyH_take (i := 1) (v := ?_) rfl (by kernel_rfl) (by kernel_rfl) (by kernel_rfl) (fun _ _ _ h => h) (Or.inl ⟨by rfl, ?_⟩) (by assumption) ?_; rotate_left 1; (focus (intro w' hSw; (try dsimp only at hSw); go_simp; (try with_reducible rfl); done)); try simp only [Act.put, List.setIfInBounds_toArray, List.set_cons_zero, List.set_cons_succ, List.getElem_toArray, List.getElem_cons_zero, List.getElem_cons_succ])
              (refine wpAnyH_take (i := 2) (v := ?_) rfl (by kernel_rfl) (by kernel_rfl) (by kernel_rfl) (fun _ _ _ h => h) (Or.inl ⟨by rfl, ?_⟩) (by assumption) ?_; rotate_left 1; (focus (intro w' hSw; (try dsimp only at hSw); go_simp; (try with_reducible rfl); done)); try simp only [Act.put, List.setIfInBounds_toArray, List.set_cons_zero, List.set_cons_succ, List.getElem_toArray, List.getElem_cons_zero, List.getElem_cons_succ])
              (refine wpAnyH_take (i := 3) (v := undef) rfl (by kernel_rfl) (by kernel_rfl) (by kernel_rfl) (fun _ _ _ h => h) (Or.inr ⟨by rfl, rfl⟩) (by assumption) ?_; try simp only [Act.put, List.setIfInBounds_toArray, List.set_cons_zero, List.set_cons_succ, List.getElem_toArray, List.getElem_cons_zero, List.getElem_cons_succ])
              (refine wpAnyH_take (i := 4) (v := undef) rfl (by kernel_rfl) (by kernel_rfl) (by kernel_rfl) (fun _ _ _ h => h) (Or.inr ⟨by rfl, rfl⟩) (by assumption) ?_; try simp only [Act.put, List.setIfInBounds_toArray, List.set_cons_zero, List.set_cons_succ, List.getElem_toArray, List.getElem_cons_zero, List.getElem_cons_succ])
              (refine wpAnyH_take (i := 5) (v := undef) rfl (by kernel_rfl) (by kernel_rfl) (by kernel_rfl) (fun _ _ _ h => h) (Or.inr ⟨by rfl, rfl⟩) (by assumption) ?_; try simp only [Act.put, List.setIfInBounds_toArray, List.set_cons_zero, List.set_cons_succ, List.getElem_toArray, List.getElem_cons_zero, List.getElem_cons_succ])
              (refine wpAnyH_take (i := 6) (v := undef) rfl (by kernel_rfl) (by kernel_rfl) (by kernel_rfl) (fun _ _ _ h => h) (Or.inr ⟨by rfl, rfl⟩) (by assumption) ?_; try simp only [Act.put, List.setIfInBounds_toArray, List.set_cons_zero, List.set_cons_succ, List.getElem_toArray, List.getElem_cons_zero, List.getElem_cons_succ])
              (refine wpAnyH_take (i := 7) (v := undef) rfl (by kernel_rfl) (by kernel_rfl) (by kernel_rfl) (fun _ _ _ h => h) (Or.inr ⟨by rfl, rfl⟩) (by assumption) ?_; try simp only [Act.put, List.setIfInBounds_toArray, List.set_cons_zero, List.set_cons_succ, List.getElem_toArray, List.getElem_cons_zero, List.getElem_cons_succ])
              (refine wpAnyH_take (i := 8) (v := undef) rfl (by kernel_rfl) (by kernel_rfl) (by kernel_rfl) (fun _ _ _ h => h) (Or.inr ⟨by rfl, rfl⟩) (by assumption) ?_; try simp only [Act.put, List.setIfInBounds_toArray, List.set_cons_zero, List.set_cons_succ, List.getElem_toArray, List.getElem_cons_zero, List.getElem_cons_succ])
              (refine wpAnyH_take (i := 9) (v := undef) rfl (by kernel_rfl) (by kernel_rfl) (by kernel_rfl) (fun _ _ _ h => h) (Or.inr ⟨by rfl, rfl⟩) (by assumption) ?_; try simp only [Act.put, List.setIfInBounds_toArray, List.set_cons_zero, List.set_cons_succ, List.getElem_toArray, List.getElem_cons_zero, List.getElem_cons_succ])
              (refine wpAnyH_take (i := 10) (v := undef) rfl (by kernel_rfl) (by kernel_rfl) (by kernel_rfl) (fun _ _ _ h => h) (Or.inr ⟨by rfl, rfl⟩) (by assumption) ?_; try simp only [Act.put, List.setIfInBounds_toArray, List.set_cons_zero, List.set_cons_succ, List.getElem_toArray, List.getElem_cons_zero, List.getElem_cons_succ])
              (refine wpAnyH_take (i := 11) (v := ?_) rfl (by kernel_rfl) (by kernel_rfl) (by kernel_rfl) (fun _ _ _ h => h) (Or.inl ⟨by rfl, ?_⟩) (by assumption) ?_; rotate_left 1; (focus (intro w' hSw; (try dsimp only at hSw); go_simp; (try with_reducible rfl); done)); try simp only [Act.put, List.setIfInBounds_toArray, List.set_cons_zero, List.set_cons_succ, List.getElem_toArray, List.getElem_cons_zero, List.getElem_cons_succ])
              refine wpAnyH_done (by kernel_rfl) ?_ _
              go_wp2_with fail
              refine ⟨⟨t + 1, by omega, by go_num, fun j y hj hy => ?_, HBB.out.drew⟩, by simp [intOf]; omega⟩
              rcases (by omega : j < t ∨ j = t) with h | h
              · exact HN.out j y h hy
              · subst h
                rw [HX.out] at hy
                injection hy with hy
                subst hy
                exact ⟨HPS.out, fun z hz => by have := H0.out; omega⟩
            · obtain ⟨s, rfl⟩ : ∃ s, t = s + 1 := ⟨t - 1, by omega⟩
              have hz : decide ((0 : Int) < ((s + 1 : Nat) : Int)) = true := decide_eq_true (by omega)
              have hz2 : decide (0 < s + 1) = true := decide_eq_true (by omega)
              obtain ⟨y, hy⟩ := nth_of (l := L) (j := s) (by omega)
              obtain ⟨b', o', A3, c3, e1, _, hbl', d0, d1, d2, _⟩ := (HL.out.next HBB.out).at_ hy
              injection e1 with e1
              injection e1 with e1 e2
              subst e1 e2
              have HY := Lib.hid hy
              obtain ⟨r, hr⟩ : ∃ r, r = cmpP y.fr y.tg x.fr x.tg := ⟨_, rfl⟩
              have HR := Lib.hid hr
              have HP : Hid (∀ W, Calls Try.prog 51 #[.agg #[.int .i64 y.fr, .int .i64 y.tg, .slice A3 y.sl.length c3], .agg #[.int .i64 x.fr, .int .i64 x.tg, .slice A2 x.sl.length c2]] W fun e w' => e = .returned (.int .i64 r) ∧ Below W.heap.size W w') := Lib.hid fun W => by rw [hr]; exact pairs_any _ _ _ _ _ _ _ _ _ _ W
              obtain ⟨q6, hq6⟩ : ∃ q, decide (0 ≤ r) = q := ⟨_, rfl⟩
              have HQ6 := Lib.hid hq6
              have d0 : wn.drew.cell? ⟨b, o + s * 3, none⟩ = some (.int .i64 y.fr) := d0
              have d1 : wn.drew.cell? ⟨b, o + s * 3 + 1, none⟩ = some (.int .i64 y.tg) := d1
              have d2 : wn.drew.cell? ⟨b, o + s * 3 + 2, none⟩ = some (.slice A3 y.sl.length c3) := d2
              have p0 : wn.drew.cell? ⟨wr.heap.size, 0, none⟩ = some (.int .i64 x.fr) := (HB3.out.cell (p := ⟨wr.heap.size, 0, none⟩) lp).trans p0
              have p1 : wn.drew.cell? ⟨wr.heap.size, 1, none⟩ = some (.int .i64 x.tg) := (HB3.out.cell (p := ⟨wr.heap.size, 1, none⟩) lp).trans p1
              have p2 : wn.drew.cell? ⟨wr.heap.size, 2, none⟩ = some (.slice A2 x.sl.length c2) := (HB3.out.cell (p := ⟨wr.heap.size, 2, none⟩) lp).trans p2
              have lb : b < wn.drew.heap.size := hbl'
              have lp : wr.heap.size < wn.drew.heap.size := Nat.lt_of_lt_of_le lp HB3.out.size
              have hws : IntKind.i64.wrap (((s + 1 : Nat) : Int) - 1) = (s : Int) := by rw [IntWalk.i64_in _ (by omega)]; omega
              have hws2 : IntKind.i64.wrap (s : Int) = (s : Int) := IntWalk.i64_in _ (by omega)
              have hs2 : 0 ≤ (s : Int) ∧ (s : Int) < L.length := by omega
              clear hy hr h0
              go_upto_region 6 with fail
              refine wp_region_held_drew (S := (fun w' => w'.cell? ⟨b, o + s * 3, none⟩ = some (.int .i64 y.fr) ∧ w'.cell? ⟨b, o + s * 3 + 1, none⟩ = some (.int .i64 y.tg) ∧ w'.cell? ⟨b, o + s * 3 + 2, none⟩ = some (.slice A3 y.sl.length c3) ∧ w'.cell? ⟨wr.heap.size, 0, none⟩ = some (.int .i64 x.fr) ∧ w'.cell? ⟨wr.heap.size, 1, none⟩ = some (.int .i64 x.tg) ∧ w'.cell? ⟨wr.heap.size, 2, none⟩ = some (.slice A2 x.sl.length c2))) (by kernel_rfl) ?_ (fun hHeld => ?_)
              · exact ⟨d0, d1, d2, p0, p1, p2⟩
              (refine wpAnyH_take (i := 0) (v := ?_) rfl (by kernel_rfl) (by kernel_rfl) (by kernel_rfl) (fun _ _ _ h => h) (Or.inl ⟨by rfl, ?_⟩) (by assumption) ?_; rotate_left 1; (focus (intro w' hSw; (try dsimp only at hSw); go_simp; (try with_reducible rfl); done)); try simp only [Act.put, List.setIfInBounds_toArray, List.set_cons_zero, List.set_cons_succ, List.getElem_toArray, List.getElem_cons_zero])
              (refine wpAnyH_take (i := 1) (v := ?_) rfl (by kernel_rfl) (by kernel_rfl) (by kernel_rfl) (fun _ _ _ h => h) (Or.inl ⟨by rfl, ?_⟩) (by assumption) ?_; rotate_left 1; (focus (intro w' hSw; (try dsimp only at hSw); go_simp; (try with_reducible rfl); done)); try simp only [Act.put, List.setIfInBounds_toArray, List.set_cons_zero, List.set_cons_succ, List.getElem_toArray, List.getElem_cons_zero, List.getElem_cons_succ])
              (refine wpAnyH_take (i := 2) (v := ?_) rfl (by kernel_rfl) (by kernel_rfl) (by kernel_rfl) (fun _ _ _ h => h) (Or.inl ⟨by rfl, ?_⟩) (by assumption) ?_; rotate_left 1; (focus (intro w' hSw; (try dsimp only at hSw); go_simp; (try with_reducible rfl); done)); try simp only [Act.put, List.setIfInBounds_toArray, List.set_cons_zero, List.set_cons_succ, List.getElem_toArray, List.getElem_cons_zero, List.getElem_cons_succ])
              (refine wpAnyH_take (i := 3) (v := ?_) rfl (by kernel_rfl) (by kernel_rfl) (by kernel_rfl) (fun _ _ _ h => h) (Or.inl ⟨by rfl, ?_⟩) (by assumption) ?_; rotate_left 1; (focus (intro w' hSw; (try dsimp only at hSw); go_simp; (try with_reducible rfl); done)); try simp only [Act.put, List.setIfInBounds_toArray, List.set_cons_zero, List.set_cons_succ, List.getElem_toArray, List.getElem_cons_zero, List.getElem_cons_succ])
              (refine wpAnyH_take (i := 4) (v := ?_) rfl (by kernel_rfl) (by kernel_rfl) (by kernel_rfl) (fun _ _ _ h => h) (Or.inl ⟨by rfl, ?_⟩) (by assumption) ?_; rotate_left 1; (focus (intro w' hSw; (try dsimp only at hSw); go_simp; (try with_reducible rfl); done)); try simp only [Act.put, List.setIfInBounds_toArray, List.set_cons_zero, List.set_cons_succ, List.getElem_toArray, List.getElem_cons_zero, List.getElem_cons_succ])
              (refine wpAnyH_take (i := 5) (v := ?_) rfl (by kernel_rfl) (by kernel_rfl) (by kernel_rfl) (fun _ _ _ h => h) (Or.inl ⟨by rfl, ?_⟩) (by assumption) ?_; rotate_left 1; (focus (intro w' hSw; (try dsimp only at hSw); go_simp; (try with_reducible rfl); done)); try simp only [Act.put, List.setIfInBounds_toArray, List.set_cons_zero, List.set_cons_succ, List.getElem_toArray, List.getElem_cons_zero, List.getElem_cons_succ])
              (refine wpAnyH_take (i := 6) (v := ?_) rfl (by kernel_rfl) (by kernel_rfl) (by kernel_rfl) (fun _ _ _ h => h) (Or.inl ⟨by rfl, ?_⟩) (by assumption) ?_; rotate_left 1; (focus (intro w' hSw; (try dsimp only at hSw); go_simp; (try with_reducible rfl); done)); try simp only [Act.put, List.setIfInBounds_toArray, List.set_cons_zero, List.set_cons_succ, List.getElem_toArray, List.getElem_cons_zero, List.getElem_cons_succ])
              (refine wpAnyH_take (i := 7) (v := ?_) rfl (by kernel_rfl) (by kernel_rfl) (by kernel_rfl) (fun _ _ _ h => h) (Or.inl ⟨by rfl, ?_⟩) (by assumption) ?_; rotate_left 1; (focus (intro w' hSw; (try dsimp only at hSw); go_simp; (try with_reducible rfl); done)); try simp only [Act.put, List.setIfInBounds_toArray, List.set_cons_zero, List.set_cons_succ, List.getElem_toArray, List.getElem_cons_zero, List.getElem_cons_succ])
              (refine wpAnyH_take (i := 8) (v := ?_) rfl (by kernel_rfl) (by kernel_rfl) (by kernel_rfl) (fun _ _ _ h => h) (Or.inl ⟨by rfl, ?_⟩) (by assumption) ?_; rotate_left 1; (focus (intro w' hSw; (try dsimp only at hSw); go_simp; (try with_reducible rfl); done)); try simp only [Act.put, List.setIfInBounds_toArray, List.set_cons_zero, List.set_cons_succ, List.getElem_toArray, List.getElem_cons_zero, List.getElem_cons_succ])
              refine wpAnyH_ready (rs := [9]) (by kernel_rfl) (by simp) ?_
              refine AllReadyH.cons rfl (fun K hK => ?_) AllReadyH.nil
              go_simp
              refine (HP.out _).mono ?_
              rintro e w3 ⟨rfl, hb3⟩
              have HB3 := Lib.hid hb3
              clear hb3
              go_wp2_with fail
              refine hK.out _ _ ⟨(HB3.out.cell (p := ⟨b, o + s * 3, none⟩) lb).trans d0, (HB3.out.cell (p := ⟨b, o + s * 3 + 1, none⟩) lb).trans d1, (HB3.out.cell (p := ⟨b, o + s * 3 + 2, none⟩) lb).trans d2, (HB3.out.cell (p := ⟨wr.heap.size, 0, none⟩) lp).trans p0, (HB3.out.cell (p := ⟨wr.heap.size, 1, none⟩) lp).trans p1, (HB3.out.cell (p := ⟨wr.heap.size, 2, none⟩) lp).trans p2⟩ (fun hHeld2 => ?_)
              clear hK K hHeld
              try simp only [Act.put, List.setIfInBounds_toArray, List.set_cons_zero, List.set_cons_succ, List.getElem_toArray, List.getElem_cons_zero, List.getElem_cons_succ]
              have hHeld := hHeld2
              clear hHeld2
              (refine wpAnyH_take (i := 10) (v := ?_) rfl (by kernel_rfl) (by kernel_rfl) (by kernel_rfl) (fun _ _ _ h => h) (Or.inl ⟨by rfl, ?_⟩) (by assumption) ?_; rotate_left 1; (focus (intro w' hSw; (try dsimp only at hSw); go_simp; (try with_reducible rfl); done)); try simp only [Act.put, List.setIfInBounds_toArray, List.set_cons_zero, List.set_cons_succ, List.getElem_toArray, List.getElem_cons_zero, List.getElem_cons_succ])
              (refine wpAnyH_take (i := 11) (v := ?_) rfl (by kernel_rfl) (by kernel_rfl) (by kernel_rfl) (fun _ _ _ h => h) (Or.inl ⟨by rfl, ?_⟩) (by assumption) ?_; rotate_left 1; (focus (intro w' hSw; (try dsimp only at hSw); go_simp; (try with_reducible rfl); done)); try simp only [Act.put, List.setIfInBounds_toArray, List.set_cons_zero, List.set_cons_succ, List.getElem_toArray, List.getElem_cons_zero, List.getElem_cons_succ])
              refine wpAnyH_done (by kernel_rfl) ?_ _
              cases q6 with
              | true =>
                go_wp2_with fail
                go_ret
                exact ⟨false, rfl, iff_no fun h => by
                  have h1 := ((valS_pass L).1 h (s + 1) x HX.out).2 y (by omega) (by rw [Nat.add_sub_cancel]; exact HY.out)
                  rw [← cmpP_lt] at h1
                  have h2 := of_decide_eq_true HQ6.out
                  rw [HR.out] at h2
                  omega, HBB.out.drew.trans (HB3.out.mono HBB.out.size)⟩
              | false =>
                go_wp2_with fail
                refine ⟨⟨s + 1 + 1, by omega, by go_num, fun j z hj hz => ?_, HBB.out.drew.trans (HB3.out.mono HBB.out.size)⟩, by simp [intOf]; omega⟩
                rcases (by omega : j < s + 1 ∨ j = s + 1) with h | h
                · exact HN.out j z h hz
                · subst h
                  rw [HX.out] at hz
                  injection hz with hz
                  subst hz
                  refine ⟨HPS.out, fun z' _ hz' => ?_⟩
                  rw [Nat.add_sub_cancel, HY.out] at hz'
                  injection hz' with hz'
                  subst hz'
                  rw [← cmpP_lt]
                  have h2 := of_decide_eq_false HQ6.out
                  rw [HR.out] at h2
                  omega
    · have hlt2 : ¬ (t : Int) < L.length := by omega
      have HX := Lib.hid (show ValS L from (valS_pass L).2 fun j x hx => HN.out j x (by have := get_lt hx; omega) hx)
      go_wp2_with fail
      go_ret
      exact ⟨true, rfl, iff_yes HX.out, HB.out⟩
end Go.Proofs.Ytjkbjbikofindaa
