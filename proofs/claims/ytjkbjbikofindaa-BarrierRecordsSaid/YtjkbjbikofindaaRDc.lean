/-
  Package remset as it landed: a pair looked up by binary search, slots looked up, Has.
-/
import Derived.Test.YtjkbjbikofindaaRDb
namespace Go.Proofs.Ytjkbjbikofindaa
open Go.RowKit
set_option maxRecDepth 100000
set_option linter.unusedVariables false

/-- Numbers that ascend: those below v come first. -/
theorem cnt_asc (v : Int) : ∀ S : List Int, AscN S → (∀ (j : Nat) (x : Int), j < S.countP (fun x => decide (x < v)) → S[j]? = some x → x < v) ∧ (∀ x, S[S.countP (fun x => decide (x < v))]? = some x → ¬ x < v) ∧ (v ∈ S → S[S.countP (fun x => decide (x < v))]? = some v)
  | [], _ => by simp
  | a :: l, h => by
    obtain ⟨i1, i2, i3⟩ := cnt_asc v l h.tail
    by_cases ha : a < v
    · have e : (a :: l).countP (fun x => decide (x < v)) = l.countP (fun x => decide (x < v)) + 1 := by rw [List.countP_cons_of_pos (by simpa using ha)]
      rw [e]
      refine ⟨fun j x hj hx => ?_, fun x hx => i2 x (by simpa using hx), fun hv => ?_⟩
      · rcases j with _ | j
        · simp at hx
          omega
        · exact i1 j x (by omega) (by simpa using hx)
      · rcases List.mem_cons.1 hv with rfl | hv
        · omega
        · simpa using i3 hv
    · have e0 : l.countP (fun x => decide (x < v)) = 0 := by
        rw [List.countP_eq_zero]
        intro x hx
        have := h.all x hx
        simp
        omega
      have e : (a :: l).countP (fun x => decide (x < v)) = 0 := by rw [List.countP_cons_of_neg (by simpa using ha), e0]
      rw [e]
      refine ⟨fun j x hj => by omega, fun x hx => by simp at hx; omega, fun hv => ?_⟩
      rcases List.mem_cons.1 hv with rfl | hv
      · simp
      · have := h.all v hv
        omega
theorem ascN_le : ∀ S : List Int, AscN S → S.Pairwise (· ≤ ·)
  | [], _ => .nil
  | a :: l, h => .cons (fun x hx => by have := h.all x hx; omega) (ascN_le l h.tail)
/-- What the binary search for a slot answers. -/
def NumAt (S : List Int) (v : Int) (w : World) (e : Ending) (w' : World) : Prop := ∃ (n : Nat) (q : Bool), e = .returned (.tuple #[.int .i64 n, .bool q]) ∧ n ≤ S.length ∧ (∀ (j : Nat) (x : Int), j < n → S[j]? = some x → x < v) ∧ (∀ x, S[n]? = some x → ¬ x < v) ∧ (q = true ↔ v ∈ S) ∧ (v ∈ S → S[n]? = some v) ∧ Below w.heap.size w w'
theorem below_drawnN {B : Nat} {a w : World} (h : Below B a w) (q : Nat) : Below B a (w.drewN q) := h.trans ⟨rfl, rfl, rfl, Nat.le_refl _, fun _ _ => rfl⟩
theorem searchN_any (A : Option Addr) (c : Nat) (S : List Int) (v : Int) (w : World) (hS : SArr w (Lt w.heap.size) A c S) (hA : AscN S) (hl : S.length ≤ 1048576) : Calls Try.prog 58 #[.slice A S.length c, .int .i64 v] w (NumAt S v w) := by
  by_cases h0 : S.length = 0
  · have hI : S = [] := List.length_eq_zero_iff.1 h0
    subst hI
    refine (Try.slices_BinarySearch_int_empty A c v w).mono ?_
    rintro e w' ⟨rfl, rfl⟩
    exact ⟨0, false, rfl, by simp, by simp, by simp, by simp, by simp, Below.refl _ _⟩
  · obtain ⟨b, o, e, _, _⟩ := hS.2.2.2 (by omega)
    subst e
    refine (Try.slices_BinarySearch_int b o S.length c S v w (Nat.le_refl _) (by omega) (sarr_getD hS) (by rw [List.take_length]; exact ascN_le S hA)).mono ?_
    rintro e w' ⟨rfl, q, rfl⟩
    rw [List.take_length]
    obtain ⟨i1, i2, i3⟩ := cnt_asc v S hA
    exact ⟨_, _, rfl, List.countP_le_length, i1, i2, by simp, i3, below_drawnN (Below.refl _ _) q⟩

/-- What the search for a pair answers. -/
def PosOf (L : List SetR) (f g : Int) (w : World) (e : Ending) (w' : World) : Prop := ∃ (n : Nat) (q : Bool), e = .returned (.tuple #[.int .i64 n, .bool q]) ∧ n ≤ L.length ∧ (∀ (j : Nat) (x : SetR), j < n → L[j]? = some x → bef x.fr x.tg f g) ∧ (∀ (j : Nat) (x : SetR), n ≤ j → L[j]? = some x → ¬ bef x.fr x.tg f g) ∧ (q = true ↔ ∃ x, L[n]? = some x ∧ x.fr = f ∧ x.tg = g) ∧ Below w.heap.size w w'

set_option maxHeartbeats 1000000 in
theorem posClo_any (f t g u : Int) (A1 A2 : Option Addr) (n1 c1 n2 c2 : Nat) (w : World) :
    Calls Try.prog 76 #[.agg #[.int .i64 f, .int .i64 t, .slice A1 n1 c1], .agg #[.int .i64 g, .int .i64 u, .slice A2 n2 c2]] w fun e w' => e = .returned (.int .i64 (cmpP f t g u)) ∧ Below w.heap.size w w' := by
  obtain ⟨U, hU⟩ : ∃ U, U = (w.alloc (.cells #[.int .i64 f, .int .i64 t, .slice A1 n1 c1] 57)).alloc (.cells #[.int .i64 g, .int .i64 u, .slice A2 n2 c2] 57) := ⟨_, rfl⟩
  have B1 : Blk U w.heap.size 57 #[.int .i64 f, .int .i64 t, .slice A1 n1 c1] := by rw [hU]; exact (Blk.new _ _ _).alloc _
  have B2 : Blk U (w.heap.size + 1) 57 #[.int .i64 g, .int .i64 u, .slice A2 n2 c2] := by rw [hU]; exact Blk.newAt _ _ _ _ (by simp)
  have HBU : Hid (Below w.heap.size w U) := by rw [hU]; exact Lib.hid (((Below.refl _ _).alloc (Nat.le_refl _) _).alloc (by simp) _)
  have HU := Lib.hid hU
  have p0 := B1.cell 0
  have p1 := B1.cell 1
  have p2 := B1.cell 2
  have r0 := B2.cell 0
  have r1 := B2.cell 1
  have r2 := B2.cell 2
  simp at p0 p1 p2 r0 r1 r2
  clear hU B1 B2
  obtain ⟨r, hr⟩ : ∃ r, r = cmpP f t g u := ⟨_, rfl⟩
  have HP : Hid (∀ W, Calls Try.prog 51 #[.agg #[.int .i64 f, .int .i64 t, .slice A1 n1 c1], .agg #[.int .i64 g, .int .i64 u, .slice A2 n2 c2]] W fun e w' => e = .returned (.int .i64 r) ∧ Below W.heap.size W w') := Lib.hid fun W => by rw [hr]; exact pairs_any _ _ _ _ _ _ _ _ _ _ W
  rw [← hr]
  clear hr
  go_enter Try.func76, Try.ntmps76
  go_upto_region 1 with fail
  rw [← HU.out]
  go_wp2_with fail
  refine (HP.out _).mono ?_
  rintro e w3 ⟨rfl, hb3⟩
  have HB3 := Lib.hid hb3
  clear hb3
  go_wp2_with fail
  go_ret
  exact ⟨rfl, HBU.out.trans (HB3.out.mono HBU.out.size)⟩

theorem asc_bef {L : List SetR} (h : AscS L) {f g : Int} : ∀ {j k : Nat} {x y : SetR}, j ≤ k → L[j]? = some x → L[k]? = some y → bef y.fr y.tg f g → bef x.fr x.tg f g := by
  induction L with
  | nil => intro j k x y _ hx; simp at hx
  | cons a l ih =>
    intro j k x y hjk hx hy hb
    rcases j with _ | j
    · rcases k with _ | k
      · rw [hx] at hy; injection hy with hy; subst hy; exact hb
      · simp at hx hy
        subst hx
        exact bef_trans (h.all y (List.mem_iff_getElem?.2 ⟨k, hy⟩)) hb
    · rcases k with _ | k
      · omega
      · exact ih h.tail (j := j) (k := k) (by omega) (by simpa using hx) (by simpa using hy) hb

set_option maxHeartbeats 8000000 in
theorem search_any (A : Option Addr) (c : Nat) (L : List SetR) (f g : Int) (w : World) (hL : TArr w (Lt w.heap.size) A c L) (hA : AscS L) (hn : L.length ≤ 1048576) :
    Calls Try.prog 75 #[.slice A L.length c, .agg #[.int .i64 f, .int .i64 g, .slice none 0 0], .func (.func 76) #[] #[]] w (PosOf L f g w) := by
  have HL := Lib.hid hL
  have HA := Lib.hid hA
  obtain ⟨U, hU⟩ : ∃ U, U = w.alloc (.cells #[.int .i64 f, .int .i64 g, .slice none 0 0] 57) := ⟨_, rfl⟩
  have HBX := Lib.hid (show Blk U w.heap.size 57 #[.int .i64 f, .int .i64 g, .slice none 0 0] by rw [hU]; exact Blk.new _ _ _)
  have HBU : Hid (Below w.heap.size w U) := by rw [hU]; exact Lib.hid ((Below.refl _ _).alloc (Nat.le_refl _) _)
  have HU := Lib.hid hU
  clear hL hA hU
  go_enter Try.func75, Try.ntmps75
  go_upto_region 1 with fail
  rw [← HU.out]
  go_wp2_with fail
  go_loopw [9, 10] (fun s9 s10 wr => ∃ lo hi : Nat, s9 = .int .i64 lo ∧ s10 = .int .i64 hi ∧ lo ≤ hi ∧ hi ≤ L.length ∧ (∀ (j : Nat) (x : SetR), j < lo → L[j]? = some x → bef x.fr x.tg f g) ∧ (∀ (j : Nat) (x : SetR), hi ≤ j → L[j]? = some x → ¬ bef x.fr x.tg f g) ∧ Below w.heap.size w wr ∧ Blk wr w.heap.size 57 #[.int .i64 f, .int .i64 g, .slice none 0 0]) (fun s9 s10 _ => (intOf s10).toNat - (intOf s9).toNat)
  case atStart => exact ⟨0, L.length, rfl, rfl, by omega, by omega, fun j x hj => by omega, fun j x hj hx => by have := get_lt hx; omega, HBU.out, HBX.out⟩
  case round =>
    obtain ⟨lo, hi, rfl, rfl, hlh, hin, hlo, hhi, hb, hbx⟩ := hrel
    have HLO := Lib.hid hlo
    have HHI := Lib.hid hhi
    have HB := Lib.hid hb
    have HBX := Lib.hid hbx
    have p0 : wr.drew.cell? ⟨w.heap.size, 0, none⟩ = some (.int .i64 f) := hbx.cell 0
    have p1 : wr.drew.cell? ⟨w.heap.size, 1, none⟩ = some (.int .i64 g) := hbx.cell 1
    have p2 : wr.drew.cell? ⟨w.heap.size, 2, none⟩ = some (.slice none 0 0) := hbx.cell 2
    have lp : w.heap.size < wr.drew.heap.size := hbx.lt
    clear hlo hhi hb hbx
    by_cases hlt : lo < hi
    · have hlt2 : (lo : Int) < hi := by omega
      obtain ⟨m, hm⟩ : ∃ m, m = (lo + hi) / 2 := ⟨_, rfl⟩
      have hmi : ((lo : Int) + (hi : Int)) / 2 = (m : Int) := by omega
      have hmb : 0 ≤ (m : Int) ∧ (m : Int) < L.length := by omega
      have HM := Lib.hid (show lo ≤ m ∧ m < hi by omega)
      obtain ⟨x, hx⟩ := nth_of (l := L) (j := m) (by omega)
      obtain ⟨b, o, A3, c3, rfl, _, hbl, d0, d1, d2, _⟩ := (HL.out.next HB.out).at_ hx
      have HX := Lib.hid hx
      have d0 : wr.drew.cell? ⟨b, o + m * 3, none⟩ = some (.int .i64 x.fr) := d0
      have d1 : wr.drew.cell? ⟨b, o + m * 3 + 1, none⟩ = some (.int .i64 x.tg) := d1
      have d2 : wr.drew.cell? ⟨b, o + m * 3 + 2, none⟩ = some (.slice A3 x.sl.length c3) := d2
      have lb : b < wr.drew.heap.size := hbl
      obtain ⟨r, hr⟩ : ∃ r, r = cmpP x.fr x.tg f g := ⟨_, rfl⟩
      have HR := Lib.hid hr
      have HP : Hid (∀ W, Calls Try.prog 76 #[.agg #[.int .i64 x.fr, .int .i64 x.tg, .slice A3 x.sl.length c3], .agg #[.int .i64 f, .int .i64 g, .slice none 0 0]] W fun e w' => e = .returned (.int .i64 r) ∧ Below W.heap.size W w') := Lib.hid fun W => by rw [hr]; exact posClo_any _ _ _ _ _ _ _ _ _ _ W
      obtain ⟨q, hq⟩ : ∃ q, decide (r < 0) = q := ⟨_, rfl⟩
      have HQ := Lib.hid hq
      clear hx hr hm
      go_upto_region 5 with fail
      refine wp_region_held_drew (S := (fun w' => w'.cell? ⟨b, o + m * 3, none⟩ = some (.int .i64 x.fr) ∧ w'.cell? ⟨b, o + m * 3 + 1, none⟩ = some (.int .i64 x.tg) ∧ w'.cell? ⟨b, o + m * 3 + 2, none⟩ = some (.slice A3 x.sl.length c3) ∧ w'.cell? ⟨w.heap.size, 0, none⟩ = some (.int .i64 f) ∧ w'.cell? ⟨w.heap.size, 1, none⟩ = some (.int .i64 g) ∧ w'.cell? ⟨w.heap.size, 2, none⟩ = some (.slice none 0 0))) (by kernel_rfl) ?_ (fun hHeld => ?_)
      · exact ⟨d0, d1, d2, p0, p1, p2⟩
      (refine wpAnyH_take (i := 0) (v := ?_) rfl (by kernel_rfl) (by kernel_rfl) (by kernel_rfl) (fun _ _ _ h => h) (Or.inl ⟨by rfl, ?_⟩) (by assumption) ?_; rotate_left 1; (focus (intro w' hSw; (try dsimp only at hSw); go_simp; (try with_reducible rfl); done)); try simp only [Act.put, List.setIfInBounds_toArray, List.set_cons_zero, List.set_cons_succ, List.getElem_toArray, List.getElem_cons_zero])
      (refine wpAnyH_take (i := 1) (v := ?_) rfl (by kernel_rfl) (by kernel_rfl) (by kernel_rfl) (fun _ _ _ h => h) (Or.inl ⟨by rfl, ?_⟩) (by assumption) ?_; rotate_left 1; (focus (intro w' hSw; (try dsimp only at hSw); go_simp; (try with_reducible rfl); done)); try simp only [Act.put, List.setIfInBounds_toArray, List.set_cons_zero, List.set_cons_succ, List.getElem_toArray, List.getElem_cons_zero, List.getElem_cons_succ])
      (refine wpAnyH_take (i := 2) (v := ?_) rfl (by kernel_rfl) (by kernel_rfl) (by kernel_rfl) (fun _ _ _ h => h) (Or.inl ⟨by rfl, ?_⟩) (by assumption) ?_; rotate_left 1; (focus (intro w' hSw; (try dsimp only at hSw); go_simp; (try with_reducible rfl); done)); try simp only [Act.put, List.setIfInBounds_toArray, List.set_cons_zero, List.set_cons_succ, List.getElem_toArray, List.getElem_cons_zero, List.getElem_cons_succ])
      (refine wpAnyH_take (i := 3) (v := ?_) rfl (by kernel_rfl) (by kernel_rfl) (by kernel_rfl) (fun _ _ _ h => h) (Or.inl ⟨by rfl, ?_⟩) (by assumption) ?_; rotate_left 1; (focus (intro w' hSw; (try dsimp only at hSw); go_simp; (try with_reducible rfl); done)); try simp only [Act.put, List.setIfInBounds_toArray, List.set_cons_zero, List.set_cons_succ, List.getElem_toArray, List.getElem_cons_zero, List.getElem_cons_succ])
      (refine wpAnyH_take (i := 4) (v := ?_) rfl (by kernel_rfl) (by kernel_rfl) (by kernel_rfl) (fun _ _ _ h => h) (Or.inl ⟨by rfl, ?_⟩) (by assumption) ?_; rotate_left 1; (focus (intro w' hSw; (try dsimp only at hSw); go_simp; (try with_reducible rfl); done)); try simp only [Act.put, List.setIfInBounds_toArray, List.set_cons_zero, List.set_cons_succ, List.getElem_toArray, List.getElem_cons_zero, List.getElem_cons_succ])
      (refine wpAnyH_take (i := 5) (v := ?_) rfl (by kernel_rfl) (by kernel_rfl) (by kernel_rfl) (fun _ _ _ h => h) (Or.inl ⟨by rfl, ?_⟩) (by assumption) ?_; rotate_left 1; (focus (intro w' hSw; (try dsimp only at hSw); go_simp; (try with_reducible rfl); done)); try simp only [Act.put, List.setIfInBounds_toArray, List.set_cons_zero, List.set_cons_succ, List.getElem_toArray, List.getElem_cons_zero, List.getElem_cons_succ])
      refine wpAnyH_ready (rs := [6]) (by kernel_rfl) (by simp) ?_
      refine AllReadyH.cons rfl (fun K hK => ?_) AllReadyH.nil
      go_simp
      refine (HP.out _).mono ?_
      rintro e w3 ⟨rfl, hb3⟩
      have HB3 := Lib.hid hb3
      clear hb3
      go_wp2_with fail
      refine hK.out _ _ ⟨(HB3.out.cell (p := ⟨b, o + m * 3, none⟩) lb).trans d0, (HB3.out.cell (p := ⟨b, o + m * 3 + 1, none⟩) lb).trans d1, (HB3.out.cell (p := ⟨b, o + m * 3 + 2, none⟩) lb).trans d2, (HB3.out.cell (p := ⟨w.heap.size, 0, none⟩) lp).trans p0, (HB3.out.cell (p := ⟨w.heap.size, 1, none⟩) lp).trans p1, (HB3.out.cell (p := ⟨w.heap.size, 2, none⟩) lp).trans p2⟩ (fun hHeld2 => ?_)
      clear hK K hHeld
      try simp only [Act.put, List.setIfInBounds_toArray, List.set_cons_zero, List.set_cons_succ, List.getElem_toArray, List.getElem_cons_zero, List.getElem_cons_succ]
      have hHeld := hHeld2
      clear hHeld2
      (refine wpAnyH_take (i := 7) (v := ?_) rfl (by kernel_rfl) (by kernel_rfl) (by kernel_rfl) (fun _ _ _ h => h) (Or.inl ⟨by rfl, ?_⟩) (by assumption) ?_; rotate_left 1; (focus (intro w' hSw; (try dsimp only at hSw); go_simp; (try with_reducible rfl); done)); try simp only [Act.put, List.setIfInBounds_toArray, List.set_cons_zero, List.set_cons_succ, List.getElem_toArray, List.getElem_cons_zero, List.getElem_cons_succ])
      refine wpAnyH_done (by kernel_rfl) ?_ _
      clear d0 d1 d2 p0 p1 p2
      cases q with
      | true =>
        have HY := Lib.hid ((cmpP_lt _ _ _ _).1 (show cmpP x.fr x.tg f g < 0 by rw [← HR.out]; exact of_decide_eq_true HQ.out))
        go_wp2_with fail
        have hmm := HM.out
        refine ⟨⟨m + 1, hi, by go_num, rfl, by omega, hin, fun j y hj hy => ?_, HHI.out, HB.out.drew.trans (HB3.out.mono HB.out.size), HBX.out.next ((Below.refl _ wr).drew.trans HB3.out)⟩, by simp [intOf]; omega⟩
        exact asc_bef HA.out (by omega) hy HX.out HY.out
      | false =>
        have HY := Lib.hid (show ¬ bef x.fr x.tg f g from fun h => (of_decide_eq_false HQ.out) (by rw [HR.out]; exact (cmpP_lt _ _ _ _).2 h))
        go_wp2_with fail
        have hmm := HM.out
        refine ⟨⟨lo, m, rfl, rfl, by omega, by omega, HLO.out, fun j y hj hy => fun hby => HY.out (asc_bef HA.out hj HX.out hy hby), HB.out.drew.trans (HB3.out.mono HB.out.size), HBX.out.next ((Below.refl _ wr).drew.trans HB3.out)⟩, by simp [intOf]; omega⟩
    · have hlt2 : ¬ (lo : Int) < hi := by omega
      obtain rfl : hi = lo := by omega
      by_cases hnl : hi < L.length
      · have hg1 : decide ((hi : Int) < (L.length : Int)) = true := decide_eq_true (by omega)
        have hg2 : decide (hi < L.length) = true := decide_eq_true hnl
        have hmb : 0 ≤ (hi : Int) ∧ (hi : Int) < L.length := by omega
        obtain ⟨x, hx⟩ := nth_of (l := L) (j := hi) (by omega)
        obtain ⟨b, o, A3, c3, rfl, _, hbl, d0, d1, d2, _⟩ := (HL.out.next HB.out).at_ hx
        have HX := Lib.hid hx
        have d0 : wr.drew.cell? ⟨b, o + hi * 3, none⟩ = some (.int .i64 x.fr) := d0
        have d1 : wr.drew.cell? ⟨b, o + hi * 3 + 1, none⟩ = some (.int .i64 x.tg) := d1
        have d2 : wr.drew.cell? ⟨b, o + hi * 3 + 2, none⟩ = some (.slice A3 x.sl.length c3) := d2
        have lb : b < wr.drew.heap.size := hbl
        obtain ⟨r, hr⟩ : ∃ r, r = cmpP x.fr x.tg f g := ⟨_, rfl⟩
        have HR := Lib.hid hr
        have HP : Hid (∀ W, Calls Try.prog 76 #[.agg #[.int .i64 x.fr, .int .i64 x.tg, .slice A3 x.sl.length c3], .agg #[.int .i64 f, .int .i64 g, .slice none 0 0]] W fun e w' => e = .returned (.int .i64 r) ∧ Below W.heap.size W w') := Lib.hid fun W => by rw [hr]; exact posClo_any _ _ _ _ _ _ _ _ _ _ W
        obtain ⟨q, hq⟩ : ∃ q, (r == 0) = q := ⟨_, rfl⟩
        have HQ := Lib.hid hq
        clear hx hr
        go_upto_region 8 with fail
        refine wp_region_held_drew (S := (fun w' => w'.cell? ⟨b, o + hi * 3, none⟩ = some (.int .i64 x.fr) ∧ w'.cell? ⟨b, o + hi * 3 + 1, none⟩ = some (.int .i64 x.tg) ∧ w'.cell? ⟨b, o + hi * 3 + 2, none⟩ = some (.slice A3 x.sl.length c3) ∧ w'.cell? ⟨w.heap.size, 0, none⟩ = some (.int .i64 f) ∧ w'.cell? ⟨w.heap.size, 1, none⟩ = some (.int .i64 g) ∧ w'.cell? ⟨w.heap.size, 2, none⟩ = some (.slice none 0 0))) (by kernel_rfl) ?_ (fun hHeld => ?_)
        · exact ⟨d0, d1, d2, p0, p1, p2⟩
        (refine wpAnyH_take (i := 0) (v := ?_) rfl (by kernel_rfl) (by kernel_rfl) (by kernel_rfl) (fun _ _ _ h => h) (Or.inl ⟨by rfl, ?_⟩) (by assumption) ?_; rotate_left 1; (focus (intro w' hSw; (try dsimp only at hSw); go_simp; (try with_reducible rfl); done)); try simp only [Act.put, List.setIfInBounds_toArray, List.set_cons_zero, List.set_cons_succ, List.getElem_toArray, List.getElem_cons_zero])
        (refine wpAnyH_take (i := 1) (v := ?_) rfl (by kernel_rfl) (by kernel_rfl) (by kernel_rfl) (fun _ _ _ h => h) (Or.inl ⟨by rfl, ?_⟩) (by assumption) ?_; rotate_left 1; (focus (intro w' hSw; (try dsimp only at hSw); go_simp; (try with_reducible rfl); done)); try simp only [Act.put, List.setIfInBounds_toArray, List.set_cons_zero, List.set_cons_succ, List.getElem_toArray, List.getElem_cons_zero, List.getElem_cons_succ])
        (refine wpAnyH_take (i := 2) (v := ?_) rfl (by kernel_rfl) (by kernel_rfl) (by kernel_rfl) (fun _ _ _ h => h) (Or.inl ⟨by rfl, ?_⟩) (by assumption) ?_; rotate_left 1; (focus (intro w' hSw; (try dsimp only at hSw); go_simp; (try with_reducible rfl); done)); try simp only [Act.put, List.setIfInBounds_toArray, List.set_cons_zero, List.set_cons_succ, List.getElem_toArray, List.getElem_cons_zero, List.getElem_cons_succ])
        (refine wpAnyH_take (i := 3) (v := ?_) rfl (by kernel_rfl) (by kernel_rfl) (by kernel_rfl) (fun _ _ _ h => h) (Or.inl ⟨by rfl, ?_⟩) (by assumption) ?_; rotate_left 1; (focus (intro w' hSw; (try dsimp only at hSw); go_simp; (try with_reducible rfl); done)); try simp only [Act.put, List.setIfInBounds_toArray, List.set_cons_zero, List.set_cons_succ, List.getElem_toArray, List.getElem_cons_zero, List.getElem_cons_succ])
        (refine wpAnyH_take (i := 4) (v := ?_) rfl (by kernel_rfl) (by kernel_rfl) (by kernel_rfl) (fun _ _ _ h => h) (Or.inl ⟨by rfl, ?_⟩) (by assumption) ?_; rotate_left 1; (focus (intro w' hSw; (try dsimp only at hSw); go_simp; (try with_reducible rfl); done)); try simp only [Act.put, List.setIfInBounds_toArray, List.set_cons_zero, List.set_cons_succ, List.getElem_toArray, List.getElem_cons_zero, List.getElem_cons_succ])
        (refine wpAnyH_take (i := 5) (v := ?_) rfl (by kernel_rfl) (by kernel_rfl) (by kernel_rfl) (fun _ _ _ h => h) (Or.inl ⟨by rfl, ?_⟩) (by assumption) ?_; rotate_left 1; (focus (intro w' hSw; (try dsimp only at hSw); go_simp; (try with_reducible rfl); done)); try simp only [Act.put, List.setIfInBounds_toArray, List.set_cons_zero, List.set_cons_succ, List.getElem_toArray, List.getElem_cons_zero, List.getElem_cons_succ])
        (refine wpAnyH_take (i := 6) (v := ?_) rfl (by kernel_rfl) (by kernel_rfl) (by kernel_rfl) (fun _ _ _ h => h) (Or.inl ⟨by rfl, ?_⟩) (by assumption) ?_; rotate_left 1; (focus (intro w' hSw; (try dsimp only at hSw); go_simp; (try with_reducible rfl); done)); try simp only [Act.put, List.setIfInBounds_toArray, List.set_cons_zero, List.set_cons_succ, List.getElem_toArray, List.getElem_cons_zero, List.getElem_cons_succ])
        (refine wpAnyH_take (i := 7) (v := ?_) rfl (by kernel_rfl) (by kernel_rfl) (by kernel_rfl) (fun _ _ _ h => h) (Or.inl ⟨by rfl, ?_⟩) (by assumption) ?_; rotate_left 1; (focus (intro w' hSw; (try dsimp only at hSw); go_simp; (try with_reducible rfl); done)); try simp only [Act.put, List.setIfInBounds_toArray, List.set_cons_zero, List.set_cons_succ, List.getElem_toArray, List.getElem_cons_zero, List.getElem_cons_succ])
        (refine wpAnyH_take (i := 8) (v := ?_) rfl (by kernel_rfl) (by kernel_rfl) (by kernel_rfl) (fun _ _ _ h => h) (Or.inl ⟨by rfl, ?_⟩) (by assumption) ?_; rotate_left 1; (focus (intro w' hSw; (try dsimp only at hSw); go_simp; (try with_reducible rfl); done)); try simp only [Act.put, List.setIfInBounds_toArray, List.set_cons_zero, List.set_cons_succ, List.getElem_toArray, List.getElem_cons_zero, List.getElem_cons_succ])
        (refine wpAnyH_take (i := 9) (v := ?_) rfl (by kernel_rfl) (by kernel_rfl) (by kernel_rfl) (fun _ _ _ h => h) (Or.inl ⟨by rfl, ?_⟩) (by assumption) ?_; rotate_left 1; (focus (intro w' hSw; (try dsimp only at hSw); go_simp; (try with_reducible rfl); done)); try simp only [Act.put, List.setIfInBounds_toArray, List.set_cons_zero, List.set_cons_succ, List.getElem_toArray, List.getElem_cons_zero, List.getElem_cons_succ])
        (refine wpAnyH_take (i := 10) (v := ?_) rfl (by kernel_rfl) (by kernel_rfl) (by kernel_rfl) (fun _ _ _ h => h) (Or.inl ⟨by rfl, ?_⟩) (by assumption) ?_; rotate_left 1; (focus (intro w' hSw; (try dsimp only at hSw); go_simp; (try with_reducible rfl); done)); try simp only [Act.put, List.setIfInBounds_toArray, List.set_cons_zero, List.set_cons_succ, List.getElem_toArray, List.getElem_cons_zero, List.getElem_cons_succ])
        refine wpAnyH_ready (rs := [11]) (by kernel_rfl) (by simp) ?_
        refine AllReadyH.cons rfl (fun K hK => ?_) AllReadyH.nil
        go_simp
        refine (HP.out _).mono ?_
        rintro e w3 ⟨rfl, hb3⟩
        have HB3 := Lib.hid hb3
        clear hb3
        go_wp2_with fail
        refine hK.out _ _ ⟨(HB3.out.cell (p := ⟨b, o + hi * 3, none⟩) lb).trans d0, (HB3.out.cell (p := ⟨b, o + hi * 3 + 1, none⟩) lb).trans d1, (HB3.out.cell (p := ⟨b, o + hi * 3 + 2, none⟩) lb).trans d2, (HB3.out.cell (p := ⟨w.heap.size, 0, none⟩) lp).trans p0, (HB3.out.cell (p := ⟨w.heap.size, 1, none⟩) lp).trans p1, (HB3.out.cell (p := ⟨w.heap.size, 2, none⟩) lp).trans p2⟩ (fun hHeld2 => ?_)
        clear hK K hHeld
        try simp only [Act.put, List.setIfInBounds_toArray, List.set_cons_zero, List.set_cons_succ, List.getElem_toArray, List.getElem_cons_zero, List.getElem_cons_succ]
        have hHeld := hHeld2
        clear hHeld2
        (refine wpAnyH_take (i := 12) (v := ?_) rfl (by kernel_rfl) (by kernel_rfl) (by kernel_rfl) (fun _ _ _ h => h) (Or.inl ⟨by rfl, ?_⟩) (by assumption) ?_; rotate_left 1; (focus (intro w' hSw; (try dsimp only at hSw); go_simp; (try with_reducible rfl); done)); try simp only [Act.put, List.setIfInBounds_toArray, List.set_cons_zero, List.set_cons_succ, List.getElem_toArray, List.getElem_cons_zero, List.getElem_cons_succ])
        (refine wpAnyH_take (i := 13) (v := ?_) rfl (by kernel_rfl) (by kernel_rfl) (by kernel_rfl) (fun _ _ _ h => h) (Or.inl ⟨by rfl, ?_⟩) (by assumption) ?_; rotate_left 1; (focus (intro w' hSw; (try dsimp only at hSw); go_simp; (try with_reducible rfl); done)); try simp only [Act.put, List.setIfInBounds_toArray, List.set_cons_zero, List.set_cons_succ, List.getElem_toArray, List.getElem_cons_zero, List.getElem_cons_succ])
        (refine wpAnyH_take (i := 14) (v := ?_) rfl (by kernel_rfl) (by kernel_rfl) (by kernel_rfl) (fun _ _ _ h => h) (Or.inl ⟨by rfl, ?_⟩) (by assumption) ?_; rotate_left 1; (focus (intro w' hSw; (try dsimp only at hSw); go_simp; (try with_reducible rfl); done)); try simp only [Act.put, List.setIfInBounds_toArray, List.set_cons_zero, List.set_cons_succ, List.getElem_toArray, List.getElem_cons_zero, List.getElem_cons_succ])
        (refine wpAnyH_take (i := 15) (v := ?_) rfl (by kernel_rfl) (by kernel_rfl) (by kernel_rfl) (fun _ _ _ h => h) (Or.inl ⟨by rfl, ?_⟩) (by assumption) ?_; rotate_left 1; (focus (intro w' hSw; (try dsimp only at hSw); go_simp; (try with_reducible rfl); done)); try simp only [Act.put, List.setIfInBounds_toArray, List.set_cons_zero, List.set_cons_succ, List.getElem_toArray, List.getElem_cons_zero, List.getElem_cons_succ])
        refine wpAnyH_done (by kernel_rfl) ?_ _
        go_wp2_with fail
        go_ret2
        refine ⟨hi, q, rfl, hin, HLO.out, HHI.out, ?_, HB.out.drew.trans (HB3.out.mono HB.out.size)⟩
        rw [← HQ.out, beq_iff_eq, HR.out, cmpP_eq]
        constructor
        · intro h
          exact ⟨x, HX.out, h⟩
        · rintro ⟨y, hy, h⟩
          rw [HX.out] at hy
          injection hy with hy
          subst hy
          exact h
      · have hg1 : decide ((hi : Int) < (L.length : Int)) = false := decide_eq_false (by omega)
        have hg2 : decide (hi < L.length) = false := decide_eq_false hnl
        have HNL := Lib.hid hnl
        go_upto_region 8 with fail
        refine wp_region_held_drew (S := (fun w' => w'.cell? ⟨w.heap.size, 0, none⟩ = some (.int .i64 f))) (by kernel_rfl) ?_ (fun hHeld => ?_)
        · exact p0
        (refine wpAnyH_take (i := 0) (v := ?_) rfl (by kernel_rfl) (by kernel_rfl) (by kernel_rfl) (fun _ _ _ h => h) (Or.inl ⟨by rfl, ?_⟩) (by assumption) ?_; rotate_left 1; (focus (intro w' hSw; (try dsimp only at hSw); go_simp; (try with_reducible rfl); done)); try simp only [Act.put, List.setIfInBounds_toArray, List.set_cons_zero, List.set_cons_succ, List.getElem_toArray, List.getElem_cons_zero])
        (refine wpAnyH_take (i := 1) (v := ?_) rfl (by kernel_rfl) (by kernel_rfl) (by kernel_rfl) (fun _ _ _ h => h) (Or.inl ⟨by rfl, ?_⟩) (by assumption) ?_; rotate_left 1; (focus (intro w' hSw; (try dsimp only at hSw); go_simp; (try with_reducible rfl); done)); try simp only [Act.put, List.setIfInBounds_toArray, List.set_cons_zero, List.set_cons_succ, List.getElem_toArray, List.getElem_cons_zero, List.getElem_cons_succ])
        (refine wpAnyH_take (i := 2) (v := ?_) rfl (by kernel_rfl) (by kernel_rfl) (by kernel_rfl) (fun _ _ _ h => h) (Or.inl ⟨by rfl, ?_⟩) (by assumption) ?_; rotate_left 1; (focus (intro w' hSw; (try dsimp only at hSw); go_simp; (try with_reducible rfl); done)); try simp only [Act.put, List.setIfInBounds_toArray, List.set_cons_zero, List.set_cons_succ, List.getElem_toArray, List.getElem_cons_zero, List.getElem_cons_succ])
        (refine wpAnyH_take (i := 3) (v := ?_) rfl (by kernel_rfl) (by kernel_rfl) (by kernel_rfl) (fun _ _ _ h => h) (Or.inl ⟨by rfl, ?_⟩) (by assumption) ?_; rotate_left 1; (focus (intro w' hSw; (try dsimp only at hSw); go_simp; (try with_reducible rfl); done)); try simp only [Act.put, List.setIfInBounds_toArray, List.set_cons_zero, List.set_cons_succ, List.getElem_toArray, List.getElem_cons_zero, List.getElem_cons_succ])
        (refine wpAnyH_take (i := 4) (v := ?_) rfl (by kernel_rfl) (by kernel_rfl) (by kernel_rfl) (fun _ _ _ h => h) (Or.inl ⟨by rfl, ?_⟩) (by assumption) ?_; rotate_left 1; (focus (intro w' hSw; (try dsimp only at hSw); go_simp; (try with_reducible rfl); done)); try simp only [Act.put, List.setIfInBounds_toArray, List.set_cons_zero, List.set_cons_succ, List.getElem_toArray, List.getElem_cons_zero, List.getElem_cons_succ])
        (refine wpAnyH_take (i := 5) (v := undef) rfl (by kernel_rfl) (by kernel_rfl) (by kernel_rfl) (fun _ _ _ h => h) (Or.inr ⟨by rfl, rfl⟩) (by assumption) ?_; try simp only [Act.put, List.setIfInBounds_toArray, List.set_cons_zero, List.set_cons_succ, List.getElem_toArray, List.getElem_cons_zero, List.getElem_cons_succ])
        (refine wpAnyH_take (i := 6) (v := undef) rfl (by kernel_rfl) (by kernel_rfl) (by kernel_rfl) (fun _ _ _ h => h) (Or.inr ⟨by rfl, rfl⟩) (by assumption) ?_; try simp only [Act.put, List.setIfInBounds_toArray, List.set_cons_zero, List.set_cons_succ, List.getElem_toArray, List.getElem_cons_zero, List.getElem_cons_succ])
        (refine wpAnyH_take (i := 7) (v := undef) rfl (by kernel_rfl) (by kernel_rfl) (by kernel_rfl) (fun _ _ _ h => h) (Or.inr ⟨by rfl, rfl⟩) (by assumption) ?_; try simp only [Act.put, List.setIfInBounds_toArray, List.set_cons_zero, List.set_cons_succ, List.getElem_toArray, List.getElem_cons_zero, List.getElem_cons_succ])
        (refine wpAnyH_take (i := 8) (v := undef) rfl (by kernel_rfl) (by kernel_rfl) (by kernel_rfl) (fun _ _ _ h => h) (Or.inr ⟨by rfl, rfl⟩) (by assumption) ?_; try simp only [Act.put, List.setIfInBounds_toArray, List.set_cons_zero, List.set_cons_succ, List.getElem_toArray, List.getElem_cons_zero, List.getElem_cons_succ])
        (refine wpAnyH_take (i := 9) (v := undef) rfl (by kernel_rfl) (by kernel_rfl) (by kernel_rfl) (fun _ _ _ h => h) (Or.inr ⟨by rfl, rfl⟩) (by assumption) ?_; try simp only [Act.put, List.setIfInBounds_toArray, List.set_cons_zero, List.set_cons_succ, List.getElem_toArray, List.getElem_cons_zero, List.getElem_cons_succ])
        (refine wpAnyH_take (i := 10) (v := undef) rfl (by kernel_rfl) (by kernel_rfl) (by kernel_rfl) (fun _ _ _ h => h) (Or.inr ⟨by rfl, rfl⟩) (by assumption) ?_; try simp only [Act.put, List.setIfInBounds_toArray, List.set_cons_zero, List.set_cons_succ, List.getElem_toArray, List.getElem_cons_zero, List.getElem_cons_succ])
        (refine wpAnyH_take (i := 11) (v := undef) rfl (by kernel_rfl) (by kernel_rfl) (by kernel_rfl) (fun _ _ _ h => h) (Or.inr ⟨by rfl, rfl⟩) (by assumption) ?_; try simp only [Act.put, List.setIfInBounds_toArray, List.set_cons_zero, List.set_cons_succ, List.getElem_toArray, List.getElem_cons_zero, List.getElem_cons_succ])
        (refine wpAnyH_take (i := 12) (v := undef) rfl (by kernel_rfl) (by kernel_rfl) (by kernel_rfl) (fun _ _ _ h => h) (Or.inr ⟨by rfl, rfl⟩) (by assumption) ?_; try simp only [Act.put, List.setIfInBounds_toArray, List.set_cons_zero, List.set_cons_succ, List.getElem_toArray, List.getElem_cons_zero, List.getElem_cons_succ])
        (refine wpAnyH_take (i := 13) (v := ?_) rfl (by kernel_rfl) (by kernel_rfl) (by kernel_rfl) (fun _ _ _ h => h) (Or.inl ⟨by rfl, ?_⟩) (by assumption) ?_; rotate_left 1; (focus (intro w' hSw; (try dsimp only at hSw); go_simp; (try with_reducible rfl); done)); try simp only [Act.put, List.setIfInBounds_toArray, List.set_cons_zero, List.set_cons_succ, List.getElem_toArray, List.getElem_cons_zero, List.getElem_cons_succ])
        (refine wpAnyH_take (i := 14) (v := ?_) rfl (by kernel_rfl) (by kernel_rfl) (by kernel_rfl) (fun _ _ _ h => h) (Or.inl ⟨by rfl, ?_⟩) (by assumption) ?_; rotate_left 1; (focus (intro w' hSw; (try dsimp only at hSw); go_simp; (try with_reducible rfl); done)); try simp only [Act.put, List.setIfInBounds_toArray, List.set_cons_zero, List.set_cons_succ, List.getElem_toArray, List.getElem_cons_zero, List.getElem_cons_succ])
        (refine wpAnyH_take (i := 15) (v := ?_) rfl (by kernel_rfl) (by kernel_rfl) (by kernel_rfl) (fun _ _ _ h => h) (Or.inl ⟨by rfl, ?_⟩) (by assumption) ?_; rotate_left 1; (focus (intro w' hSw; (try dsimp only at hSw); go_simp; (try with_reducible rfl); done)); try simp only [Act.put, List.setIfInBounds_toArray, List.set_cons_zero, List.set_cons_succ, List.getElem_toArray, List.getElem_cons_zero, List.getElem_cons_succ])
        refine wpAnyH_done (by kernel_rfl) ?_ _
        go_wp2_with fail
        go_ret2
        refine ⟨hi, false, rfl, hin, HLO.out, HHI.out, ⟨fun h => absurd h (by decide), ?_⟩, HB.out.drew⟩
        rintro ⟨y, hy, _⟩
        exact absurd (get_lt hy) HNL.out

theorem position_any (A : Option Addr) (c : Nat) (L : List SetR) (f g : Int) (w : World) (hL : TArr w (Lt w.heap.size) A c L) (hA : AscS L) (hn : L.length ≤ 1048576) :
    Calls Try.prog 56 #[.slice A L.length c, .int .i64 f, .int .i64 g] w (PosOf L f g w) := by
  have HC := Lib.hid (search_any A c L f g w hL hA hn)
  clear hL
  go_enter Try.func56, Try.ntmps56
  go_wp2_with fail
  refine HC.out.mono ?_
  rintro e w' ⟨n, q, rfl, h⟩
  have H := Lib.hid h
  clear h
  go_wp2_with fail
  go_ret2
  exact ⟨n, q, rfl, H.out⟩

theorem has_at {L : List SetR} (hv : ValS L) {f g s : Int} {n : Nat} (hhi : ∀ (j : Nat) (x : SetR), n ≤ j → L[j]? = some x → ¬ bef x.fr x.tg f g) (hlo : ∀ (j : Nat) (x : SetR), j < n → L[j]? = some x → bef x.fr x.tg f g) :
    HasS L f g s ↔ ∃ x, L[n]? = some x ∧ x.fr = f ∧ x.tg = g ∧ s ∈ x.sl := by
  constructor
  · rintro ⟨x, hx, rfl, rfl, hs⟩
    obtain ⟨j, hj⟩ := List.mem_iff_getElem?.1 hx
    rcases Nat.lt_trichotomy j n with h | h | h
    · exact absurd (hlo j x h hj) (bef_irrefl _ _)
    · subst h
      exact ⟨x, hj, rfl, rfl, hs⟩
    · exfalso
      have hjl := get_lt hj
      obtain ⟨y, hy⟩ := nth_of (l := L) (j := n) (by omega)
      obtain ⟨z, hz⟩ := nth_of (l := L) (j := n + 1) (by omega)
      have h1 := (ascS_iff L).1 hv.2 n y z hy hz
      have h2 := hhi n y (Nat.le_refl _) hy
      have h3 := hhi (n + 1) z (by omega) hz
      rcases (by omega : j = n + 1 ∨ n + 1 < j) with h4 | h4
      · subst h4
        rw [hj] at hz
        injection hz with hz
        subst hz
        exact h2 h1
      · refine h3 (asc_bef hv.2 (j := n + 1) (k := j - 1) (y := (L[j - 1]'(by omega))) (by omega) hz (List.getElem?_eq_getElem _) ?_)
        exact (ascS_iff L).1 hv.2 (j - 1) _ x (List.getElem?_eq_getElem (by omega)) (by rw [show j - 1 + 1 = j by omega]; exact hj)
  · rintro ⟨x, hx, h1, h2, h3⟩
    exact ⟨x, List.mem_iff_getElem?.2 ⟨n, hx⟩, h1, h2, h3⟩

end Go.Proofs.Ytjkbjbikofindaa
