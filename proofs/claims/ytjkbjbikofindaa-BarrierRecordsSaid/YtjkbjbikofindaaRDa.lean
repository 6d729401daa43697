/-
  Package remset as it landed: pairs compared, numbers of frames, slots that ascend, Valid, Count.
-/
import Derived.Test.YtjkbjbikofindaaRIns
import Derived.Test.YtjkbjbikofindaaShelf
namespace Go.Proofs.Ytjkbjbikofindaa
open Go.RowKit
set_option maxRecDepth 100000
set_option linter.unusedVariables false

/-- The first of two numbers that is not zero. -/
def orI (a b : Int) : Int := if a = 0 then b else a
theorem orI_zero (b : Int) : orI 0 b = b := by simp [orI]
theorem orI_ne {a : Int} (h : a ≠ 0) (b : Int) : orI a b = a := by simp [orI, h]
/-- Two pairs compared. -/
def cmpP (f t g u : Int) : Int := orI (Lib.compareInt f g) (Lib.compareInt t u)
theorem cmpP_lt (f t g u : Int) : cmpP f t g u < 0 ↔ bef f t g u := by
  unfold cmpP orI Lib.compareInt bef
  repeat' split
  all_goals omega
theorem cmpP_eq (f t g u : Int) : cmpP f t g u = 0 ↔ f = g ∧ t = u := by
  unfold cmpP orI Lib.compareInt
  repeat' split
  all_goals omega

set_option maxHeartbeats 1000000 in
theorem or_any (b : Nat) (x y : Int) (w : World) (h0 : w.cell? ⟨b, 0, none⟩ = some (.int .i64 x)) (h1 : w.cell? ⟨b, 1, none⟩ = some (.int .i64 y)) :
    Calls Try.prog 71 #[.slice (some ⟨b, 0, none⟩) 2 2] w fun e w' => e = .returned (.int .i64 (orI x y)) ∧ w' = w := by
  have hbl := cell_lt h0
  go_enter Try.func71, Try.ntmps71
  go_wp2_with fail
  go_loopw [8] (fun i wr => wr = w ∧ ∃ t : Nat, t ≤ 2 ∧ i = .int .i64 t ∧ (0 < t → x = 0) ∧ (1 < t → y = 0)) (fun i _ => 2 - (intOf i).toNat)
  case atStart => exact ⟨rfl, 0, by omega, rfl, by omega, by omega⟩
  case round =>
    obtain ⟨rfl, t, ht, rfl, hx, hy⟩ := hrel
    rcases (by omega : t = 0 ∨ t = 1 ∨ t = 2) with h | h | h
    · subst h
      by_cases hz : x = 0
      · have hz1 : (x != 0) = false := by simpa using hz
        have HZ := Lib.hid hz
        clear hz hx hy
        go_wp2_with fail
        exact ⟨⟨trivial, 1, by omega, rfl, fun _ => HZ.out, by omega⟩, by simp [intOf]⟩
      · have hz1 : (x != 0) = true := by simpa using hz
        have HZ := Lib.hid hz
        clear hz hx hy
        go_wp2_with fail
        go_ret
        exact ⟨by rw [orI_ne HZ.out]; rfl, rfl⟩
    · subst h
      have HX := Lib.hid (hx (by omega))
      clear hx
      by_cases hz : y = 0
      · have hz1 : (y != 0) = false := by simpa using hz
        have HZ := Lib.hid hz
        clear hz hy
        go_wp2_with fail
        exact ⟨⟨trivial, 2, by omega, rfl, fun _ => HX.out, fun _ => HZ.out⟩, by simp [intOf]⟩
      · have hz1 : (y != 0) = true := by simpa using hz
        have HZ := Lib.hid hz
        clear hz hy
        go_wp2_with fail
        go_ret
        exact ⟨by rw [HX.out, orI_zero]; rfl, rfl⟩
    · subst h
      have HX := Lib.hid (hx (by omega))
      have HY := Lib.hid (hy (by omega))
      clear hx hy
      go_wp2_with fail
      go_ret
      exact ⟨by rw [HX.out, HY.out, orI_zero]; rfl, rfl⟩

set_option maxHeartbeats 2000000 in
theorem pairs_any (f t g u : Int) (A1 A2 : Option Addr) (n1 c1 n2 c2 : Nat) (w : World) :
    Calls Try.prog 51 #[.agg #[.int .i64 f, .int .i64 t, .slice A1 n1 c1], .agg #[.int .i64 g, .int .i64 u, .slice A2 n2 c2]] w fun e w' => e = .returned (.int .i64 (cmpP f t g u)) ∧ Below w.heap.size w w' := by
  obtain ⟨U, hU⟩ : ∃ U, U = (w.alloc (.cells #[.int .i64 f, .int .i64 t, .slice A1 n1 c1] 57)).alloc (.cells #[.int .i64 g, .int .i64 u, .slice A2 n2 c2] 57) := ⟨_, rfl⟩
  have B1 : Blk U w.heap.size 57 #[.int .i64 f, .int .i64 t, .slice A1 n1 c1] := by rw [hU]; exact (Blk.new _ _ _).alloc _
  have B2 : Blk U (w.heap.size + 1) 57 #[.int .i64 g, .int .i64 u, .slice A2 n2 c2] := by rw [hU]; exact Blk.newAt _ _ _ _ (by simp)
  have HBU : Hid (Below w.heap.size w U) := by rw [hU]; exact Lib.hid (((Below.refl _ _).alloc (Nat.le_refl _) _).alloc (by simp) _)
  have HU := Lib.hid hU
  have p0 := B1.cell 0
  have p1 := B1.cell 1
  have r0 := B2.cell 0
  have r1 := B2.cell 1
  simp at p0 p1 r0 r1
  clear hU B1 B2
  obtain ⟨x, hx⟩ : ∃ x, x = Lib.compareInt f g := ⟨_, rfl⟩
  obtain ⟨y, hy⟩ : ∃ y, y = Lib.compareInt t u := ⟨_, rfl⟩
  have HR : Hid (cmpP f t g u = orI x y) := Lib.hid (by rw [hx, hy]; rfl)
  have cx := fun W => Try.cmp_Compare_int f g W
  have cy := fun W => Try.cmp_Compare_int t u W
  rw [← hx] at cx
  rw [← hy] at cy
  have CX := Lib.hid cx
  have CY := Lib.hid cy
  clear hx hy cx cy
  rw [HR.out]
  go_enter Try.func51, Try.ntmps51
  go_upto_region 1 with fail
  rw [← HU.out]
  have p0 : U.drew.cell? ⟨w.heap.size, 0, none⟩ = some (.int .i64 f) := p0
  have p1 : U.drew.cell? ⟨w.heap.size, 1, none⟩ = some (.int .i64 t) := p1
  have r0 : U.drew.cell? ⟨w.heap.size + 1, 0, none⟩ = some (.int .i64 g) := r0
  have r1 : U.drew.cell? ⟨w.heap.size + 1, 1, none⟩ = some (.int .i64 u) := r1
  have hl1 : w.heap.size < U.drew.heap.size := cell_lt p0
  have hl2 : w.heap.size + 1 < U.drew.heap.size := cell_lt r0
  have n0 : (U.drew.alloc (.cells #[.int .i64 x, .int .i64 y] 3)).cell? ⟨U.heap.size, 0, none⟩ = some (.int .i64 x) := by rw [World.cell?_alloc_at (w := U.drew) _ _ U.heap.size 0 rfl]; rfl
  have n1 : (U.drew.alloc (.cells #[.int .i64 x, .int .i64 y] 3)).cell? ⟨U.heap.size, 1, none⟩ = some (.int .i64 y) := by rw [World.cell?_alloc_at (w := U.drew) _ _ U.heap.size 1 rfl]; rfl
  refine wp_region_held_drew (S := (fun w' => w'.cell? ⟨w.heap.size, 0, none⟩ = some (.int .i64 f) ∧ w'.cell? ⟨w.heap.size, 1, none⟩ = some (.int .i64 t) ∧ w'.cell? ⟨w.heap.size + 1, 0, none⟩ = some (.int .i64 g) ∧ w'.cell? ⟨w.heap.size + 1, 1, none⟩ = some (.int .i64 u))) (by kernel_rfl) ?_ (fun hHeld => ?_)
  · exact ⟨p0, p1, r0, r1⟩
  (refine wpAnyH_take (i := 0) (v := ?_) rfl (by kernel_rfl) (by kernel_rfl) (by kernel_rfl) (fun _ _ _ h => h) (Or.inl ⟨by rfl, ?_⟩) (by assumption) ?_; rotate_left 1; (focus (intro w' hSw; (try dsimp only at hSw); go_simp; (try with_reducible rfl); done)); try simp only [Act.put, List.setIfInBounds_toArray, List.set_cons_zero, List.set_cons_succ, List.getElem_toArray, List.getElem_cons_zero])
  (refine wpAnyH_take (i := 1) (v := ?_) rfl (by kernel_rfl) (by kernel_rfl) (by kernel_rfl) (fun _ _ _ h => h) (Or.inl ⟨by rfl, ?_⟩) (by assumption) ?_; rotate_left 1; (focus (intro w' hSw; (try dsimp only at hSw); go_simp; (try with_reducible rfl); done)); try simp only [Act.put, List.setIfInBounds_toArray, List.set_cons_zero, List.set_cons_succ, List.getElem_toArray, List.getElem_cons_zero, List.getElem_cons_succ])
  (refine wpAnyH_take (i := 2) (v := ?_) rfl (by kernel_rfl) (by kernel_rfl) (by kernel_rfl) (fun _ _ _ h => h) (Or.inl ⟨by rfl, ?_⟩) (by assumption) ?_; rotate_left 1; (focus (intro w' hSw; (try dsimp only at hSw); go_simp; (try with_reducible rfl); done)); try simp only [Act.put, List.setIfInBounds_toArray, List.set_cons_zero, List.set_cons_succ, List.getElem_toArray, List.getElem_cons_zero, List.getElem_cons_succ])
  (refine wpAnyH_take (i := 3) (v := ?_) rfl (by kernel_rfl) (by kernel_rfl) (by kernel_rfl) (fun _ _ _ h => h) (Or.inl ⟨by rfl, ?_⟩) (by assumption) ?_; rotate_left 1; (focus (intro w' hSw; (try dsimp only at hSw); go_simp; (try with_reducible rfl); done)); try simp only [Act.put, List.setIfInBounds_toArray, List.set_cons_zero, List.set_cons_succ, List.getElem_toArray, List.getElem_cons_zero, List.getElem_cons_succ])
  (refine wpAnyH_take (i := 5) (v := ?_) rfl (by kernel_rfl) (by kernel_rfl) (by kernel_rfl) (fun _ _ _ h => h) (Or.inl ⟨by rfl, ?_⟩) (by assumption) ?_; rotate_left 1; (focus (intro w' hSw; (try dsimp only at hSw); go_simp; (try with_reducible rfl); done)); try simp only [Act.put, List.setIfInBounds_toArray, List.set_cons_zero, List.set_cons_succ, List.getElem_toArray, List.getElem_cons_zero, List.getElem_cons_succ])
  (refine wpAnyH_take (i := 6) (v := ?_) rfl (by kernel_rfl) (by kernel_rfl) (by kernel_rfl) (fun _ _ _ h => h) (Or.inl ⟨by rfl, ?_⟩) (by assumption) ?_; rotate_left 1; (focus (intro w' hSw; (try dsimp only at hSw); go_simp; (try with_reducible rfl); done)); try simp only [Act.put, List.setIfInBounds_toArray, List.set_cons_zero, List.set_cons_succ, List.getElem_toArray, List.getElem_cons_zero, List.getElem_cons_succ])
  (refine wpAnyH_take (i := 7) (v := ?_) rfl (by kernel_rfl) (by kernel_rfl) (by kernel_rfl) (fun _ _ _ h => h) (Or.inl ⟨by rfl, ?_⟩) (by assumption) ?_; rotate_left 1; (focus (intro w' hSw; (try dsimp only at hSw); go_simp; (try with_reducible rfl); done)); try simp only [Act.put, List.setIfInBounds_toArray, List.set_cons_zero, List.set_cons_succ, List.getElem_toArray, List.getElem_cons_zero, List.getElem_cons_succ])
  (refine wpAnyH_take (i := 8) (v := ?_) rfl (by kernel_rfl) (by kernel_rfl) (by kernel_rfl) (fun _ _ _ h => h) (Or.inl ⟨by rfl, ?_⟩) (by assumption) ?_; rotate_left 1; (focus (intro w' hSw; (try dsimp only at hSw); go_simp; (try with_reducible rfl); done)); try simp only [Act.put, List.setIfInBounds_toArray, List.set_cons_zero, List.set_cons_succ, List.getElem_toArray, List.getElem_cons_zero, List.getElem_cons_succ])
  refine wpAnyH_ready (rs := [4]) (by kernel_rfl) (by simp) ?_
  refine AllReadyH.cons rfl (fun K hK => ?_) AllReadyH.nil
  go_simp
  refine (CX.out _).mono ?_
  rintro e wn ⟨rfl, rfl⟩
  go_wp2_with fail
  refine hK.out _ _ hHeld (fun hHeld2 => ?_)
  clear hK K hHeld
  try simp only [Act.put, List.setIfInBounds_toArray, List.set_cons_zero, List.set_cons_succ, List.getElem_toArray, List.getElem_cons_zero, List.getElem_cons_succ]
  have hHeld := hHeld2
  clear hHeld2
  refine wpAnyH_ready (rs := [9]) (by kernel_rfl) (by simp) ?_
  refine AllReadyH.cons rfl (fun K hK => ?_) AllReadyH.nil
  go_simp
  refine (CY.out _).mono ?_
  rintro e wn ⟨rfl, rfl⟩
  go_wp2_with fail
  refine hK.out _ _ hHeld (fun hHeld2 => ?_)
  clear hK K hHeld
  try simp only [Act.put, List.setIfInBounds_toArray, List.set_cons_zero, List.set_cons_succ, List.getElem_toArray, List.getElem_cons_zero, List.getElem_cons_succ]
  have hHeld := hHeld2
  clear hHeld2
  refine wpAnyH_ready (rs := [10]) (by kernel_rfl) (by simp) ?_
  refine AllReadyH.cons rfl (fun K hK => ?_) AllReadyH.nil
  go_simp
  refine hK.out _ _ ⟨(World.cell?_alloc_past (w := U.drew) _ _ 0 hl1).trans p0, (World.cell?_alloc_past (w := U.drew) _ _ 1 hl1).trans p1, (World.cell?_alloc_past (w := U.drew) _ _ 0 hl2).trans r0, (World.cell?_alloc_past (w := U.drew) _ _ 1 hl2).trans r1⟩ (fun hHeld2 => ?_)
  clear hK K hHeld
  try simp only [Act.put, List.setIfInBounds_toArray, List.set_cons_zero, List.set_cons_succ, List.getElem_toArray, List.getElem_cons_zero, List.getElem_cons_succ]
  have hHeld := hHeld2
  clear hHeld2
  refine wpAnyH_ready (rs := [11]) (by kernel_rfl) (by simp) ?_
  refine AllReadyH.cons rfl (fun K hK => ?_) AllReadyH.nil
  go_simp
  refine (or_any U.heap.size x y _ n0 n1).mono ?_
  rintro e wn ⟨rfl, rfl⟩
  go_wp2_with fail
  refine hK.out _ _ hHeld (fun hHeld2 => ?_)
  clear hK K hHeld
  try simp only [Act.put, List.setIfInBounds_toArray, List.set_cons_zero, List.set_cons_succ, List.getElem_toArray, List.getElem_cons_zero, List.getElem_cons_succ]
  have hHeld := hHeld2
  clear hHeld2
  (refine wpAnyH_take (i := 12) (v := ?_) rfl (by kernel_rfl) (by kernel_rfl) (by kernel_rfl) (fun _ _ _ h => h) (Or.inl ⟨by rfl, ?_⟩) (by assumption) ?_; rotate_left 1; (focus (intro w' hSw; (try dsimp only at hSw); go_simp; (try with_reducible rfl); done)); try simp only [Act.put, List.setIfInBounds_toArray, List.set_cons_zero, List.set_cons_succ, List.getElem_toArray, List.getElem_cons_zero, List.getElem_cons_succ])
  refine wpAnyH_done (by kernel_rfl) ?_ _
  go_wp2_with fail
  go_ret
  exact ⟨rfl, (HBU.out.drew).alloc HBU.out.size _⟩

theorem isFrameT_any (f : Int) (w : World) : Calls Try.prog 49 #[.int .i64 f] w fun e w' => e = .returned (.bool (decide (numP f))) ∧ w' = w := by
  by_cases h0 : 0 ≤ f
  · by_cases h1 : f < 64
    · rw [decide_eq_true (show numP f from ⟨h0, h1⟩)]
      go_enter Try.func49, Try.ntmps49
      go_wp2
      go_ret
      exact ⟨rfl, rfl⟩
    · rw [decide_eq_false (show ¬ numP f from fun h => h1 h.2)]
      go_enter Try.func49, Try.ntmps49
      go_wp2
      go_ret
      exact ⟨rfl, rfl⟩
  · rw [decide_eq_false (show ¬ numP f from fun h => h0 h.1)]
    go_enter Try.func49, Try.ntmps49
    go_wp2
    go_ret
    exact ⟨rfl, rfl⟩

/-- Slots as they should be. -/
def SltOk (S : List Int) : Prop := S ≠ [] ∧ (∀ s ∈ S, 0 ≤ s) ∧ AscN S
theorem sltOk_of {S : List Int} {x : Int} (h0 : S[0]? = some x) (hx : 0 ≤ x) (h : ∀ (j : Nat) (a b : Int), S[j]? = some a → S[j + 1]? = some b → a < b) : SltOk S := by
  have hA := (ascN_iff S).2 h
  cases S with
  | nil => simp at h0
  | cons y S =>
    simp at h0
    subst h0
    refine ⟨by simp, fun s hs => ?_, hA⟩
    rcases List.mem_cons.1 hs with rfl | hs
    · exact hx
    · have := hA.all s hs
      omega

set_option maxHeartbeats 2000000 in
theorem areSlots_any (A : Option Addr) (c : Nat) (S : List Int) (w : World) (hS : SArr w (Lt w.heap.size) A c S) :
    Calls Try.prog 50 #[.slice A S.length c] w (IffOf (SltOk S) w) := by
  have HS := Lib.hid hS
  have hm := hS.2.1
  have hm' := hS.1
  simp only [maxLen] at hm
  clear hS
  by_cases hz : S.length = 0
  · have HZ := Lib.hid (List.length_eq_zero_iff.1 hz)
    have hz1 : ((S.length : Int) == 0) = true := by rw [hz]; rfl
    clear hz
    go_enter Try.func50, Try.ntmps50
    go_wp2_with fail
    go_ret
    exact ⟨false, rfl, iff_no fun h => h.1 HZ.out, Below.refl _ _⟩
  · have hz1 : ((S.length : Int) == 0) = false := beq_eq_false_iff_ne.2 (by omega)
    have hlt0 : (0 : Int) < S.length := by omega
    have hlt1 : (0 : Int) ≤ 0 ∧ (0 : Int) < S.length := by omega
    obtain ⟨x, hx⟩ := nth_of (l := S) (j := 0) (by omega)
    obtain ⟨b, o, hA, _, hbl, c0⟩ := HS.out.at_ hx
    have HX := Lib.hid hx
    subst hA
    rw [Nat.add_zero] at c0
    clear hx
    by_cases hneg : x < 0
    · have HN := Lib.hid hneg
      go_enter Try.func50, Try.ntmps50
      go_wp2_with fail
      go_ret
      exact ⟨false, rfl, iff_no fun h => by have := h.2.1 x (List.mem_iff_getElem?.2 ⟨0, HX.out⟩); have := HN.out; omega, Below.refl _ _⟩
    · have HN := Lib.hid hneg
      go_enter Try.func50, Try.ntmps50
      go_wp2_with fail
      go_loopw [3] (fun i wr => ∃ t : Nat, t < S.length ∧ i = .int .i64 (t + 1 : Nat) ∧ (∀ (j : Nat) (a b : Int), j < t → S[j]? = some a → S[j + 1]? = some b → a < b) ∧ Below w.heap.size w wr) (fun i _ => S.length - (intOf i).toNat)
      case atStart => exact ⟨0, by omega, rfl, fun j a b hj => by omega, Below.refl _ _⟩
      case round =>
        obtain ⟨t, ht, rfl, hno, hb⟩ := hrel
        have HNO := Lib.hid hno
        have HB := Lib.hid hb
        clear hno hb hneg c0
        by_cases hlt : t + 1 < S.length
        · have hl1 : ((t + 1 : Nat) : Int) < S.length := by omega
          have hl2 : 0 ≤ ((t + 1 : Nat) : Int) - 1 ∧ ((t + 1 : Nat) : Int) - 1 < S.length := by omega
          have hl3 : 0 ≤ ((t + 1 : Nat) : Int) ∧ ((t + 1 : Nat) : Int) < S.length := by omega
          have hw : IntKind.i64.wrap (((t + 1 : Nat) : Int) - 1) = (t : Int) := by rw [IntWalk.i64_in _ (by omega)]; omega
          have hl4 : 0 ≤ (t : Int) ∧ (t : Int) < S.length := by omega
          obtain ⟨y, hy⟩ := nth_of (l := S) (j := t) (by omega)
          obtain ⟨z, hz⟩ := nth_of (l := S) (j := t + 1) hlt
          have S1 := Lib.hid (HS.out.next HB.out)
          obtain ⟨b1, o1, e1, _, hb1, d0⟩ := S1.out.at_ hy
          obtain ⟨b2, o2, e2, _, hb2, d1⟩ := S1.out.at_ hz
          injection e1 with e1
          injection e1 with e1 e1'
          injection e2 with e2
          injection e2 with e2 e2'
          subst e1 e1' e2 e2'
          have HY := Lib.hid hy
          have HZ := Lib.hid hz
          obtain ⟨q, hq⟩ : ∃ q, decide (z ≤ y) = q := ⟨_, rfl⟩
          have HQ := Lib.hid hq
          clear hy hz
          have d0' : wr.drew.cell? ⟨b, o + t, none⟩ = some (.int .i64 y) := d0
          have d1' : wr.drew.cell? ⟨b, o + (t + 1), none⟩ = some (.int .i64 z) := d1
          go_upto_region 6 with fail
          go_region
          all_goals cases q
          all_goals go_wp2_with fail
          · refine ⟨⟨t + 1, by omega, by go_num, fun j a c hj ha hc => ?_, HB.out.drew⟩, by simp [intOf]; omega⟩
            rcases (by omega : j < t ∨ j = t) with h | h
            · exact HNO.out j a c h ha hc
            · subst h
              have h1 := HY.out
              have h2 := HZ.out
              rw [ha] at h1
              rw [hc] at h2
              injection h1 with h1
              injection h2 with h2
              have := of_decide_eq_false HQ.out
              omega
          · go_ret
            exact ⟨false, rfl, iff_no fun h => by
              have h1 := (ascN_iff S).1 h.2.2 t y z HY.out HZ.out
              have := of_decide_eq_true HQ.out
              omega, HB.out.drew⟩
        · have hl1 : ¬ ((t + 1 : Nat) : Int) < S.length := by omega
          have HT := Lib.hid (show t + 1 = S.length by omega)
          go_wp2_with fail
          go_ret
          refine ⟨true, rfl, iff_yes (sltOk_of HX.out (by have := HN.out; omega) fun j a b ha hb => HNO.out j a b ?_ ha hb), HB.out⟩
          have := get_lt hb
          have := HT.out
          omega
end Go.Proofs.Ytjkbjbikofindaa
