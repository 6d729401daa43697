/-
  Package remset as it landed: clone: sets whose slots are rows of the call's own, in blocks that differ.
-/
import Derived.Test.YtjkbjbikofindaaRDa
namespace Go.Proofs.Ytjkbjbikofindaa
open Go.RowKit
set_option maxRecDepth 100000
set_option linter.unusedVariables false

/-- A slot list is cloned into a row of the call's own. -/
def OwnS (S : List Int) (w : World) (e : Ending) (w' : World) : Prop := ∃ v, e = .returned v ∧ w'.ownsRow w.heap.size 3 1 v S.length (numC S) ∧ Below w.heap.size w w'
theorem sarr_getD {w : World} {P : Nat → Prop} {b o c : Nat} {S : List Int} (h : SArr w P (some ⟨b, o, none⟩) c S) : ∀ j, j < S.length → w.cell? ⟨b, o + j, none⟩ = some (.int .i64 (S.getD j 0)) := by
  intro j hj
  obtain ⟨b', o', e, _, hc⟩ := h.2.2.2 (by omega)
  injection e with e
  injection e with e1 e2
  subst e1 e2
  rw [hc j S[j] (List.getElem?_eq_getElem hj), List.getD_eq_getElem?_getD, List.getElem?_eq_getElem hj]
  rfl
theorem cloneS_any (A : Option Addr) (c : Nat) (S : List Int) (w : World) (hS : SArr w (Lt w.heap.size) A c S) (hl : S.length ≤ 1048576) : Calls Try.prog 74 #[.slice A S.length c] w (OwnS S w) := by
  rcases A with _ | ad
  · have hc := hS.2.2.1 rfl
    have hI : S = [] := List.length_eq_zero_iff.1 (by have := hS.1; omega)
    subst hI hc
    refine (Try.slices_Clone_int_nil 0 0 w).mono ?_
    rintro e w' ⟨rfl, rfl⟩
    exact ⟨_, rfl, World.ownsRow_nil _ _ _ _, Below.refl _ _⟩
  · by_cases h0 : S.length = 0
    · have hI : S = [] := List.length_eq_zero_iff.1 h0
      subst hI
      refine (Try.slices_Clone_int_zero ad c w).mono ?_
      rintro e w' ⟨v, rfl, hr, _, hb⟩
      exact ⟨v, rfl, hr, hb⟩
    · obtain ⟨b, o, e, _, _⟩ := hS.2.2.2 (by omega)
      injection e with e
      subst e
      have h := Try.slices_Clone_int b o S.length c S w (Nat.le_refl _) (by omega) (sarr_getD hS)
      refine h.mono ?_
      rintro e w' ⟨v, rfl, hr, _, hb⟩
      rw [List.take_length] at hr
      exact ⟨v, rfl, hr, hb⟩

/-- The first sets of a row of N of them, in block g; their slots are rows of the call's own behind g, each in a block of its own. -/
def Deep (w : World) (B g N : Nat) (L : List SetR) : Prop :=
  ∃ cur : Array Value, Blk w g 57 cur ∧ B ≤ g ∧ cur.size = N * 3 ∧ L.length ≤ N ∧
    (∀ (j : Nat) (x : SetR), L[j]? = some x → cur[j * 3]? = some (.int .i64 x.fr) ∧ cur[j * 3 + 1]? = some (.int .i64 x.tg) ∧ ∃ v, cur[j * 3 + 2]? = some v ∧ w.ownsRow (g + 1) 3 1 v x.sl.length (numC x.sl)) ∧
    (∀ (j k : Nat) (u v : Value) (b : Nat), j < k → k < L.length → cur[j * 3 + 2]? = some u → cur[k * 3 + 2]? = some v → u.ownBlock = some b → v.ownBlock ≠ some b)
section
variable {w w' : World} {B g N : Nat} {L : List SetR}
theorem Deep.next (h : Deep w B g N L) (hb : Below w.heap.size w w') : Deep w' B g N L := by
  obtain ⟨cur, h1, h2, h3, h4, h5, h6⟩ := h
  refine ⟨cur, h1.next hb, h2, h3, h4, fun j x hj => ?_, h6⟩
  obtain ⟨a0, a1, v, a2, a3⟩ := h5 j x hj
  exact ⟨a0, a1, v, a2, ownsRow_keep a3 fun k _ _ hl => hb.block k hl⟩
theorem Deep.lower {B' : Nat} (h : Deep w B g N L) (hB : B' ≤ B) : Deep w B' g N L := by
  obtain ⟨cur, h1, h2, h⟩ := h
  exact ⟨cur, h1, Nat.le_trans hB h2, h⟩
theorem sarr_row {v : Value} {S : List Int} {B : Nat} (h : w.ownsRow B 3 1 v S.length (numC S)) : ∃ A c, v = .slice A S.length c ∧ SArr w (Lt w.heap.size) A c S := by
  obtain ⟨A, c, e, h⟩ := sarr_of h
  exact ⟨A, c, e, h.lt⟩
theorem Deep.tarr (h : Deep w B g L.length L) (hm : L.length ≤ maxLen) : TArr w (Lt w.heap.size) (some ⟨g, 0, none⟩) L.length L := by
  obtain ⟨cur, h1, h2, h3, h4, h5, h6⟩ := h
  refine ⟨Nat.le_refl _, hm, (fun e => by cases e), fun _ => ⟨g, 0, rfl, h1.lt, fun j x hj => ?_⟩⟩
  obtain ⟨a0, a1, v, a2, a3⟩ := h5 j x hj
  obtain ⟨A, c, rfl, hS⟩ := sarr_row a3
  rw [h1.cell, h1.cell, h1.cell, Nat.zero_add]
  exact ⟨a0, a1, A, c, a2, hS⟩
theorem Deep.cells (h : Deep w B g N L) : ∃ u0 u1 u2, L.length < N → w.cell? ⟨g, L.length * 3, none⟩ = some u0 ∧ w.cell? ⟨g, L.length * 3 + 1, none⟩ = some u1 ∧ w.cell? ⟨g, L.length * 3 + 2, none⟩ = some u2 ∧ w.frozen? ⟨g, L.length * 3, none⟩ = false ∧ w.frozen? ⟨g, L.length * 3 + 1, none⟩ = false ∧ w.frozen? ⟨g, L.length * 3 + 2, none⟩ = false := by
  obtain ⟨cur, h1, h2, h3, h4, h5, h6⟩ := h
  refine ⟨cur.getD (L.length * 3) undef, cur.getD (L.length * 3 + 1) undef, cur.getD (L.length * 3 + 2) undef, fun hl => ?_⟩
  rw [h1.cell, h1.cell, h1.cell, h1.frozen, h1.frozen, h1.frozen]
  have k0 : L.length * 3 < cur.size := by omega
  have k1 : L.length * 3 + 1 < cur.size := by omega
  have k2 : L.length * 3 + 2 < cur.size := by omega
  simp [Array.getD, k0, k1, k2]
/-- One set more. -/
theorem Deep.push {x : SetR} {v : Value} (h : Deep w B g N L) (hl : L.length < N) (hb : Below w.heap.size w w') (hv : w'.ownsRow w.heap.size 3 1 v x.sl.length (numC x.sl)) :
    Deep (((w'.setCell ⟨g, L.length * 3, none⟩ (.int .i64 x.fr)).setCell ⟨g, L.length * 3 + 1, none⟩ (.int .i64 x.tg)).setCell ⟨g, L.length * 3 + 2, none⟩ v) B g N (L ++ [x]) := by
  obtain ⟨cur, h1, h2, h3, h4, h5, h6⟩ := h
  have k1 := h1.lt
  have hB := (((h1.next hb).set_ (L.length * 3) (.int .i64 x.fr)).set_ (L.length * 3 + 1) (.int .i64 x.tg)).set_ (L.length * 3 + 2) v
  have far : ∀ k, k ≠ g → (((w'.setCell ⟨g, L.length * 3, none⟩ (.int .i64 x.fr)).setCell ⟨g, L.length * 3 + 1, none⟩ (.int .i64 x.tg)).setCell ⟨g, L.length * 3 + 2, none⟩ v).heap[k]? = w'.heap[k]? := fun k hk =>
    ((Below.heap_setCell _ ⟨g, L.length * 3 + 2, none⟩ _ k hk).trans (Below.heap_setCell _ ⟨g, L.length * 3 + 1, none⟩ _ k hk)).trans (Below.heap_setCell _ ⟨g, L.length * 3, none⟩ _ k hk)
  refine ⟨_, hB, h2, by simp [h3], by simp; omega, fun j y hj => ?_, fun j k u z b hjk hk hu hz hub => ?_⟩
  · rcases Nat.lt_or_ge j L.length with hjl | hjl
    · rw [List.getElem?_append_left hjl] at hj
      obtain ⟨a0, a1, z, a2, a3⟩ := h5 j y hj
      refine ⟨?_, ?_, z, ?_, ?_⟩
      · rw [Array.getElem?_setIfInBounds_ne (by omega), Array.getElem?_setIfInBounds_ne (by omega), Array.getElem?_setIfInBounds_ne (by omega)]; exact a0
      · rw [Array.getElem?_setIfInBounds_ne (by omega), Array.getElem?_setIfInBounds_ne (by omega), Array.getElem?_setIfInBounds_ne (by omega)]; exact a1
      · rw [Array.getElem?_setIfInBounds_ne (by omega), Array.getElem?_setIfInBounds_ne (by omega), Array.getElem?_setIfInBounds_ne (by omega)]; exact a2
      · exact ownsRow_keep a3 fun k _ hk hlt => (far k (by omega)).trans (hb.block k hlt)
    · have := get_lt hj
      simp at this
      obtain rfl : j = L.length := by omega
      rw [List.getElem?_append_right (Nat.le_refl _), Nat.sub_self] at hj
      simp at hj
      subst hj
      have e0 : L.length * 3 < cur.size := by omega
      have e1 : L.length * 3 + 1 < cur.size := by omega
      have e2 : L.length * 3 + 2 < cur.size := by omega
      refine ⟨?_, ?_, v, ?_, ?_⟩
      · rw [Array.getElem?_setIfInBounds_ne (by omega), Array.getElem?_setIfInBounds_ne (by omega), Array.getElem?_setIfInBounds_self_of_lt e0]
      · rw [Array.getElem?_setIfInBounds_ne (by omega), Array.getElem?_setIfInBounds_self_of_lt (by simpa using e1)]
      · rw [Array.getElem?_setIfInBounds_self_of_lt (by simpa using e2)]
      · exact ownsRow_keep (ownsRow_lower hv (by omega)) fun k hk hk2 hlt => far k (by have := (hv.lt k hk).1; omega)
  · simp at hk
    rw [Array.getElem?_setIfInBounds_ne (by omega), Array.getElem?_setIfInBounds_ne (by omega), Array.getElem?_setIfInBounds_ne (by omega)] at hu
    rcases Nat.lt_or_ge k L.length with hkl | hkl
    · rw [Array.getElem?_setIfInBounds_ne (by omega), Array.getElem?_setIfInBounds_ne (by omega), Array.getElem?_setIfInBounds_ne (by omega)] at hz
      exact h6 j k u z b hjk hkl hu hz hub
    · obtain rfl : k = L.length := by omega
      rw [Array.getElem?_setIfInBounds_self_of_lt (by simp; omega)] at hz
      injection hz with hz
      subst hz
      intro hvb
      obtain ⟨y, hy⟩ := nth_of (l := L) (j := j) hjk
      obtain ⟨_, _, u', a2, a3⟩ := h5 j y hy
      rw [a2] at hu
      injection hu with hu
      subst hu
      have r1 := (a3.lt b hub).2
      have r2 := (hv.lt b hvb).1
      omega
end
theorem make_sets (n : Nat) (hn : n ≤ 1048576) (w : World) :
    (Instr.makeSlice 26 (.int .i64 (n : Int)) (.int .i64 (n : Int))).run Try.prog w = .ok (.slice (some ⟨w.heap.size, 0, none⟩) n n) (w.alloc (.cells (madeCells #[.int .i64 0, .int .i64 0, .slice none 0 0] (n * 3)) 57)) := by
  obtain ⟨i, hi, e⟩ := Option.map_eq_some_iff.1 set_info
  simp only [Prod.mk.injEq] at e
  obtain ⟨e1, e2, e3⟩ := e
  have h := run_make_rowN (P := Try.prog) 26 57 i _ Try.underlying26 hi e1 .i64 .i64 n n (Nat.le_refl _) (by rw [e3]; omega) (by omega) w
  rw [e2] at h
  exact h

theorem set3_far {w : World} {g i j k : Nat} {u v z : Value} {b o : Nat} (h : b ≠ g) : (((w.setCell ⟨g, i, none⟩ u).setCell ⟨g, j, none⟩ v).setCell ⟨g, k, none⟩ z).cell? ⟨b, o, none⟩ = w.cell? ⟨b, o, none⟩ :=
  World.cell?_of_block (((Below.heap_setCell _ ⟨g, k, none⟩ _ b h).trans (Below.heap_setCell _ ⟨g, j, none⟩ _ b h)).trans (Below.heap_setCell _ ⟨g, i, none⟩ _ b h))
/-- Sets cloned. -/
def DeepOf (L : List SetR) (w : World) (e : Ending) (w' : World) : Prop := ∃ g, e = .returned (.slice (some ⟨g, 0, none⟩) L.length L.length) ∧ Deep w' w.heap.size g L.length L ∧ Below w.heap.size w w'
set_option maxHeartbeats 4000000 in
theorem cloneT_any (A : Option Addr) (c : Nat) (L : List SetR) (w : World) (hL : TArr w (Lt w.heap.size) A c L) (hn : L.length ≤ 1048576) (hs : ∀ x ∈ L, x.sl.length ≤ 1048576) : Calls Try.prog 54 #[.slice A L.length c] w (DeepOf L w) := by
  have hmk := make_sets L.length hn w
  obtain ⟨V, hV⟩ : ∃ V, V = w.alloc (.cells (madeCells #[.int .i64 0, .int .i64 0, .slice none 0 0] (L.length * 3)) 57) := ⟨_, rfl⟩
  obtain ⟨g, hg⟩ : ∃ g, g = w.heap.size := ⟨_, rfl⟩
  have hD : Deep V w.heap.size g L.length [] := by
    rw [hV, hg]
    exact ⟨_, Blk.new _ _ _, Nat.le_refl _, size_madeCells _ _, by simp, fun j x hj => by simp at hj, fun j k u v b _ hk => by simp at hk⟩
  have HD0 := Lib.hid hD
  have HBV := Lib.hid (show Below w.heap.size w V by rw [hV]; exact (Below.refl _ _).alloc (Nat.le_refl _) _)
  have HL := Lib.hid hL
  have HSL := Lib.hid hs
  have HN := Lib.hid hn
  have hm := hL.2.1
  have hm' := hL.1
  simp only [maxLen] at hm
  rw [← hV, ← hg] at hmk
  have HG := Lib.hid hg
  clear hV hg hD hL hs
  go_enter Try.func54, Try.ntmps54
  go_wp2_with fail
  clear hmk
  go_loopw [11] (fun i wr => ∃ t : Nat, t ≤ L.length ∧ i = .int .i64 t ∧ Deep wr w.heap.size g L.length (L.take t) ∧ Below w.heap.size w wr) (fun i _ => L.length - (intOf i).toNat)
  case atStart => exact ⟨0, by omega, rfl, by rw [List.take_zero]; exact HD0.out, HBV.out⟩
  case round =>
    obtain ⟨t, ht, rfl, hd, hb⟩ := hrel
    have HD := Lib.hid hd
    have HB := Lib.hid hb
    clear hb hd HD0
    by_cases hlt : t < L.length
    · have hlt2 : 0 ≤ (t : Int) ∧ (t : Int) < L.length := by omega
      obtain ⟨x, hx⟩ := nth_of hlt
      obtain ⟨b, o, A2, c2, rfl, _, hbl, c0, c1, c2', hS⟩ := (HL.out.next HB.out).at_ hx
      have HX := Lib.hid hx
      have HXL := Lib.hid (HSL.out x (List.mem_iff_getElem?.2 ⟨t, hx⟩))
      have htl : (L.take t).length = t := by simp; omega
      have HTL := Lib.hid htl
      have HLT := Lib.hid hlt
      obtain ⟨W1, hW1⟩ : ∃ W1, W1 = wr.alloc (.cells #[.int .i64 x.fr, .int .i64 x.tg, .slice A2 x.sl.length c2] 57) := ⟨_, rfl⟩
      have hb1 : Below wr.heap.size wr W1 := by rw [hW1]; exact (Below.refl _ wr).alloc (Nat.le_refl _) _
      have HB1 := Lib.hid hb1
      have hbx : Blk W1 wr.heap.size 57 #[.int .i64 x.fr, .int .i64 x.tg, .slice A2 x.sl.length c2] := by rw [hW1]; exact Blk.new _ _ _
      have HBX := Lib.hid hbx
      have HW1 := Lib.hid hW1
      have HD1 := Lib.hid (HD.out.next hb1)
      have hgl : g < W1.heap.size := by obtain ⟨_, hh, _⟩ := HD1.out; exact hh.lt
      have HGL := Lib.hid hgl
      have HGN := Lib.hid (show wr.heap.size ≠ g by obtain ⟨_, hh, _⟩ := HD.out; have := hh.lt; omega)
      have p0 : W1.drew.cell? ⟨wr.heap.size, 0, none⟩ = some (.int .i64 x.fr) := hbx.cell 0
      have p1 : W1.drew.cell? ⟨wr.heap.size, 1, none⟩ = some (.int .i64 x.tg) := hbx.cell 1
      have p2 : W1.drew.cell? ⟨wr.heap.size, 2, none⟩ = some (.slice A2 x.sl.length c2) := hbx.cell 2
      have lp : wr.heap.size < W1.drew.heap.size := hbx.lt
      have HS := Lib.hid (show SArr W1.drew (Lt W1.drew.heap.size) A2 c2 x.sl from (show SArr W1 (Lt W1.heap.size) A2 c2 x.sl from hS.next hb1))
      have HM := Lib.hid (And.intro hm hm')
      clear hx hS hW1 hb1 hbx htl hn hm hm' hgl
      go_upto_region 5 with fail
      rw [← HW1.out]
      clear c0 c1 c2'
      refine wp_region_held_drew (S := (fun w' => w'.cell? ⟨wr.heap.size, 0, none⟩ = some (.int .i64 x.fr) ∧ w'.cell? ⟨wr.heap.size, 1, none⟩ = some (.int .i64 x.tg) ∧ w'.cell? ⟨wr.heap.size, 2, none⟩ = some (.slice A2 x.sl.length c2))) (by kernel_rfl) ?_ (fun hHeld => ?_)
      · exact ⟨p0, p1, p2⟩
      (refine wpAnyH_take (i := 0) (v := ?_) rfl (by kernel_rfl) (by kernel_rfl) (by kernel_rfl) (fun _ _ _ h => h) (Or.inl ⟨by rfl, ?_⟩) (by assumption) ?_; rotate_left 1; (focus (intro w' hSw; (try dsimp only at hSw); go_simp; (try with_reducible rfl); done)); try simp only [Act.put, List.setIfInBounds_toArray, List.set_cons_zero, List.set_cons_succ, List.getElem_toArray, List.getElem_cons_zero])
      (refine wpAnyH_take (i := 1) (v := ?_) rfl (by kernel_rfl) (by kernel_rfl) (by kernel_rfl) (fun _ _ _ h => h) (Or.inl ⟨by rfl, ?_⟩) (by assumption) ?_; rotate_left 1; (focus (intro w' hSw; (try dsimp only at hSw); go_simp; (try with_reducible rfl); done)); try simp only [Act.put, List.setIfInBounds_toArray, List.set_cons_zero, List.set_cons_succ, List.getElem_toArray, List.getElem_cons_zero, List.getElem_cons_succ])
      (refine wpAnyH_take (i := 2) (v := ?_) rfl (by kernel_rfl) (by kernel_rfl) (by kernel_rfl) (fun _ _ _ h => h) (Or.inl ⟨by rfl, ?_⟩) (by assumption) ?_; rotate_left 1; (focus (intro w' hSw; (try dsimp only at hSw); go_simp; (try with_reducible rfl); done)); try simp only [Act.put, List.setIfInBounds_toArray, List.set_cons_zero, List.set_cons_succ, List.getElem_toArray, List.getElem_cons_zero, List.getElem_cons_succ])
      (refine wpAnyH_take (i := 3) (v := ?_) rfl (by kernel_rfl) (by kernel_rfl) (by kernel_rfl) (fun _ _ _ h => h) (Or.inl ⟨by rfl, ?_⟩) (by assumption) ?_; rotate_left 1; (focus (intro w' hSw; (try dsimp only at hSw); go_simp; (try with_reducible rfl); done)); try simp only [Act.put, List.setIfInBounds_toArray, List.set_cons_zero, List.set_cons_succ, List.getElem_toArray, List.getElem_cons_zero, List.getElem_cons_succ])
      (refine wpAnyH_take (i := 4) (v := ?_) rfl (by kernel_rfl) (by kernel_rfl) (by kernel_rfl) (fun _ _ _ h => h) (Or.inl ⟨by rfl, ?_⟩) (by assumption) ?_; rotate_left 1; (focus (intro w' hSw; (try dsimp only at hSw); go_simp; (try with_reducible rfl); done)); try simp only [Act.put, List.setIfInBounds_toArray, List.set_cons_zero, List.set_cons_succ, List.getElem_toArray, List.getElem_cons_zero, List.getElem_cons_succ])
      (refine wpAnyH_take (i := 5) (v := ?_) rfl (by kernel_rfl) (by kernel_rfl) (by kernel_rfl) (fun _ _ _ h => h) (Or.inl ⟨by rfl, ?_⟩) (by assumption) ?_; rotate_left 1; (focus (intro w' hSw; (try dsimp only at hSw); go_simp; (try with_reducible rfl); done)); try simp only [Act.put, List.setIfInBounds_toArray, List.set_cons_zero, List.set_cons_succ, List.getElem_toArray, List.getElem_cons_zero, List.getElem_cons_succ])
      (refine wpAnyH_take (i := 6) (v := ?_) rfl (by kernel_rfl) (by kernel_rfl) (by kernel_rfl) (fun _ _ _ h => h) (Or.inl ⟨by rfl, ?_⟩) (by assumption) ?_; rotate_left 1; (focus (intro w' hSw; (try dsimp only at hSw); go_simp; (try with_reducible rfl); done)); try simp only [Act.put, List.setIfInBounds_toArray, List.set_cons_zero, List.set_cons_succ, List.getElem_toArray, List.getElem_cons_zero, List.getElem_cons_succ])
      (refine wpAnyH_take (i := 7) (v := ?_) rfl (by kernel_rfl) (by kernel_rfl) (by kernel_rfl) (fun _ _ _ h => h) (Or.inl ⟨by rfl, ?_⟩) (by assumption) ?_; rotate_left 1; (focus (intro w' hSw; (try dsimp only at hSw); go_simp; (try with_reducible rfl); done)); try simp only [Act.put, List.setIfInBounds_toArray, List.set_cons_zero, List.set_cons_succ, List.getElem_toArray, List.getElem_cons_zero, List.getElem_cons_succ])
      refine wpAnyH_ready (rs := [8]) (by kernel_rfl) (by simp) ?_
      refine AllReadyH.cons rfl (fun K hK => ?_) AllReadyH.nil
      go_simp
      refine (cloneS_any A2 c2 x.sl W1.drew HS.out HXL.out).mono ?_
      rintro e wn ⟨v, rfl, hv, hwb⟩
      obtain ⟨A3, c3, rfl, _⟩ := row_slice hv
      have HWB := Lib.hid hwb
      have HV := Lib.hid hv
      have hKD := hHeld
      go_wp2_with fail
      refine hK.out _ _ ⟨(HWB.out.cell (p := ⟨wr.heap.size, 0, none⟩) lp).trans p0, (HWB.out.cell (p := ⟨wr.heap.size, 1, none⟩) lp).trans p1, (HWB.out.cell (p := ⟨wr.heap.size, 2, none⟩) lp).trans p2⟩ (fun hHeld2 => ?_)
      clear hK K hHeld hKD hv hwb
      try simp only [Act.put, List.setIfInBounds_toArray, List.set_cons_zero, List.set_cons_succ, List.getElem_toArray, List.getElem_cons_zero, List.getElem_cons_succ]
      have hHeld := hHeld2
      clear hHeld2
      obtain ⟨u0, u1, u2, hu⟩ := Deep.cells (HD1.out.next ((Below.refl _ W1).drew.trans HWB.out))
      rw [HTL.out] at hu
      obtain ⟨f0, f1, f2, z0, z1, z2⟩ := hu hlt
      clear hu
      have hgn : g < wn.heap.size := cell_lt f0
      (refine wpAnyH_take (i := 9) (v := ?_) rfl (by kernel_rfl) (by kernel_rfl) (by kernel_rfl) (fun _ _ _ h => h) (Or.inl ⟨by rfl, ?_⟩) (by assumption) ?_; rotate_left 1; (focus (intro w' hSw; (try dsimp only at hSw); go_simp; (try with_reducible rfl); done)); try simp only [Act.put, List.setIfInBounds_toArray, List.set_cons_zero, List.set_cons_succ, List.getElem_toArray, List.getElem_cons_zero, List.getElem_cons_succ])
      (refine wpAnyH_take (i := 10) (v := ?_) rfl (by kernel_rfl) (by kernel_rfl) (by kernel_rfl) (fun _ _ _ h => h) (Or.inl ⟨by rfl, ?_⟩) (by assumption) ?_; rotate_left 1; (focus (intro w' hSw; (try dsimp only at hSw); go_simp; (try with_reducible rfl); done)); try simp only [Act.put, List.setIfInBounds_toArray, List.set_cons_zero, List.set_cons_succ, List.getElem_toArray, List.getElem_cons_zero, List.getElem_cons_succ])
      refine wpAnyH_ready (rs := [11]) (by kernel_rfl) (by simp) ?_
      refine AllReadyH.cons rfl (fun K hK => ?_) AllReadyH.nil
      go_simp
      refine hK.out _ _ ⟨(set3_far HGN.out).trans hHeld.1, (set3_far HGN.out).trans hHeld.2.1, (set3_far HGN.out).trans hHeld.2.2⟩ (fun hHeld2 => ?_)
      clear hK K hHeld
      try simp only [Act.put, List.setIfInBounds_toArray, List.set_cons_zero, List.set_cons_succ, List.getElem_toArray, List.getElem_cons_zero, List.getElem_cons_succ]
      clear hHeld2
      refine wpAnyH_done (by kernel_rfl) ?_ _
      have HZ : ∃ Z, Z = (((wn.setCell ⟨g, t * 3, none⟩ (.int .i64 x.fr)).setCell ⟨g, t * 3 + 1, none⟩ (.int .i64 x.tg)).setCell ⟨g, t * 3 + 2, none⟩ (.slice A3 x.sl.length c3)) ∧ Deep Z w.heap.size g L.length (L.take (t + 1)) ∧ Below w.heap.size w Z := by
        refine ⟨_, rfl, ?_, ?_⟩
        · have h := Deep.push (x := x) (w' := wn) HD1.out (by rw [HTL.out]; exact HLT.out) ((Below.refl _ W1).drew.trans HWB.out) HV.out
          rw [HTL.out] at h
          rw [List.take_add_one, HX.out]
          exact h
        · have hge : w.heap.size ≤ g := by rw [HG.out]; exact Nat.le_refl _
          have h1 := below_next HB.out (Nat.le_refl _) ((HB1.out.drew).trans (HWB.out.mono HB1.out.size))
          exact ((h1.setCell (p := ⟨g, t * 3, none⟩) hge _).setCell (p := ⟨g, t * 3 + 1, none⟩) hge _).setCell (p := ⟨g, t * 3 + 2, none⟩) hge _
      obtain ⟨Z, hZ, hzd, hzb⟩ := HZ
      have HZD := Lib.hid hzd
      have HZB := Lib.hid hzb
      have HZE := Lib.hid hZ
      clear hzd hzb hZ f0 f1 f2 z0 z1 z2 hgn p0 p1 p2 lp
      rw [← HZE.out]
      obtain ⟨hm, hm'⟩ := HM.out
      go_wp2_with fail
      exact ⟨⟨t + 1, HLT.out, by go_num, HZD.out, HZB.out⟩, by have := HLT.out; simp [intOf]; omega⟩
    · have hlt2 : ¬ (t : Int) < L.length := by omega
      obtain rfl : t = L.length := by omega
      have HDE := Lib.hid (show Deep wr w.heap.size g L.length L by have h := HD.out; rw [List.take_length] at h; exact h)
      go_wp2_with fail
      go_ret
      exact ⟨g, rfl, HDE.out, HB.out⟩
end Go.Proofs.Ytjkbjbikofindaa
