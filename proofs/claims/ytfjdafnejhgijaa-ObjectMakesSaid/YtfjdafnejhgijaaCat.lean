/-
  Contracts of slices: Grow of nil, Concat of two rows of numbers; of package object: Slots.
-/
import Derived.Test.YtfjdafnejhgijaaFld
import Derived.Lib.AppendZeros
import Derived.Laws.AppendOwnNone
namespace Go.Proofs.Ytfjdafnejhgijaa
open Go.RowKit
set_option maxRecDepth 100000
set_option linter.unusedVariables false

theorem nums_news {w : World} {B n c : Nat} {x : Addr} {l : List Nat} (h : Nums w B (some x) n c (numF l)) (hl : l.length = n) : ∀ j u, (numL l)[j]? = some u → w.cell? (x.add j) = some u := by
  intro j u hu
  have hj : j < l.length := by
    rcases Nat.lt_or_ge j l.length with h1 | h1
    · exact h1
    · rw [List.getElem?_eq_none (by simp [numL]; exact h1)] at hu; cases hu
  obtain ⟨b, o, hA, _, hc⟩ := h.at_ j (by omega)
  injection hA with hA
  subst hA
  rw [add_at, hc]
  have h2 : (numL l)[j]? = some (.int .i64 (l[j] : Int)) := by simp [numL, hj]
  rw [h2] at hu
  rw [← hu]
  congr 2
  unfold numF
  rw [List.getD_eq_getElem?_getD, List.getElem?_eq_getElem hj]
  rfl
theorem numL_one (l : List Nat) : ∀ u ∈ numL l, u.oneCell' = true := by
  intro u hu
  simp only [numL, List.mem_map] at hu
  obtain ⟨j, _, rfl⟩ := hu
  rfl
theorem numL_length (l : List Nat) : (numL l).length = l.length := by simp [numL]
theorem numL_append (l m : List Nat) : numL l ++ numL m = numL (l ++ m) := by simp [numL]

theorem grow_nil (N : Nat) (hN : N ≤ 4096) (w : World) :
    Calls Try.prog 70 #[.slice none 0 0, .int .i64 N] w fun e w' => ∃ v, e = .returned v ∧ w'.ownsRow w.heap.size 3 1 v 0 [] ∧ Below w.heap.size w w' ∧ ∃ A c, v = .slice A 0 c := by
  obtain ⟨i0, hi0, hz0, hz1, hz2⟩ := info_parts int_info
  by_cases h0 : N = 0
  · subst h0
    go_enter Try.func70, Try.ntmps70
    go_wp2
    go_ret
    exact ⟨_, rfl, World.ownsRow_nil _ _ _ _, Below.refl _ _, none, 0, rfl⟩
  · have hpos : 0 < N := by omega
    have hG := grownCap_ge w N 0 3
    have hG2 := grownCap_le_maxLen w N 0 3 (by simp only [maxLen]; omega)
    have hrz : ∀ ty, (Builtin.append_ #[26, 3] ty #[.slice none 0 0, .int .i64 (N : Int)]).run Try.prog w = _ := fun ty =>
      Lib.run_append_nil_zeros w 26 3 ty 3 i0 (.int .i64 0) .i64 .i64 Try.underlying26 Try.underlying3 hi0 hz0 N hpos (by rw [hz1]; decide) (by omega) (by rw [hz2]; omega)
    obtain ⟨G, hGG⟩ : ∃ G, G = grownCap w N 0 3 := ⟨_, rfl⟩
    rw [← hGG] at hG hG2 hrz
    have hG3 : G ≤ 9223372036854775807 := by simp only [maxLen] at hG2; omega
    obtain ⟨V, hV⟩ : ∃ V, V = w.drew.alloc (.cells (Builtin.zeroCells (Value.int .i64 0).cells N ++ Builtin.zeroCells (Value.int .i64 0).cells (G - N)) 3) := ⟨_, rfl⟩
    rw [← hV] at hrz
    have hrow : V.ownsRow w.heap.size 3 1 (.slice (some ⟨w.heap.size, 0, none⟩) 0 G) 0 [] := by
      rw [hV]
      refine ⟨rfl, .inr ⟨w.heap.size, G, _, rfl, Nat.le_refl _, heap_alloc_new w.drew _, by omega, hG2, ?_, by simp⟩⟩
      simp only [Array.size_append, size_zeroCells]
      simp [Value.cells]
      omega
    have HR := Lib.hid hrow
    have HB := Lib.hid (show Below w.heap.size w V by rw [hV]; exact ((Below.refl w.heap.size w).drew).alloc (Nat.le_refl _) _)
    clear hrow hV hGG hG2
    go_enter Try.func70, Try.ntmps70
    go_wp2_with (at_builtin; refine Lib.wpList_append_run _ rfl _ _ _ _ rfl _ _ rfl rfl _ _ (hrz _) ?_)
    all_goals
      go_ret
      exact ⟨_, rfl, HR.out, HB.out, _, _, rfl⟩

/-- What the first j rows are together. -/
def catL (l1 l2 : List Nat) : Nat → List Nat
  | 0 => []
  | 1 => l1
  | _ => l1 ++ l2

set_option maxHeartbeats 4000000 in
theorem concat_any (Q : Nat) (A1 A2 : Option Addr) (l1 l2 : List Nat) (c1 c2 : Nat) (w : World) (h1 : Nums w w.heap.size A1 l1.length c1 (numF l1)) (h2 : Nums w w.heap.size A2 l2.length c2 (numF l2))
    (q0 : w.cell? ⟨Q, 0, none⟩ = some (.slice A1 l1.length c1)) (q1 : w.cell? ⟨Q, 1, none⟩ = some (.slice A2 l2.length c2)) (b1 : l1.length ≤ 1000) (b2 : l2.length ≤ 1000) :
    Calls Try.prog 42 #[.slice (some ⟨Q, 0, none⟩) 2 2] w (GivesNums (l1 ++ l2) w) := by
  obtain ⟨i0, hi0, hz0, hz1, hz2⟩ := info_parts int_info
  have qz := cell_lt q0
  obtain ⟨n1, hn1⟩ : ∃ n, n = l1.length := ⟨_, rfl⟩
  obtain ⟨n2, hn2⟩ : ∃ n, n = l2.length := ⟨_, rfl⟩
  have H1 := Lib.hid h1
  have H2 := Lib.hid h2
  rw [← hn1] at q0 b1 H1
  rw [← hn2] at q1 b2 H2
  have HN1 := Lib.hid hn1
  have HN2 := Lib.hid hn2
  have Q0 := Lib.hid q0
  have Q1 := Lib.hid q1
  clear h1 h2 hn1 hn2
  go_enter Try.func42, Try.ntmps42
  go_wp2_with fail
  go_loopw [3, 5, 11] (fun sz _ i wr => ∃ j : Nat, j ≤ 2 ∧ i = .int .i64 j ∧ sz = .int .i64 (if j = 0 then 0 else if j = 1 then (n1 : Int) else (n1 : Int) + n2) ∧ wr = w) (fun _ _ i _ => 2 - (intOf i).toNat)
  case atStart => exact ⟨0, by omega, rfl, rfl, rfl⟩
  case round =>
    obtain ⟨j, hj, rfl, rfl, rfl⟩ := hrel
    rcases (by omega : j = 0 ∨ j = 1 ∨ j = 2) with e | e | e <;> subst e
    · have hneg : ¬ (0 + (n1 : Int) < 0) := by omega
      go_wp2_with fail
      go_roundw
      case rel => exact ⟨1, by omega, by first | rfl | go_num | simp, by simp, by first | rfl | trivial⟩
      case measure => simp [intOf]
    · have hneg : ¬ ((n1 : Int) + n2 < 0) := by omega
      go_wp2_with fail
      go_roundw
      case rel => exact ⟨2, by omega, by first | rfl | go_num | simp, by simp, by first | rfl | trivial⟩
      case measure => simp [intOf]
    · obtain ⟨W0, rfl⟩ : ∃ W0, W0 = wr := ⟨_, rfl⟩
      have hs : ((n1 : Int) + n2) = ((n1 + n2 : Nat) : Int) := by omega
      have G := grow_nil (n1 + n2) (by omega) W0
      rw [← hs] at G
      have HG := Lib.hid G
      clear hs G
      go_wp2_with fail
      refine HG.out.mono ?_
      rintro e W1 ⟨v1, rfl, hown1, hb1, A3, c3, rfl⟩
      have HO1 := Lib.hid hown1
      have HB1 := Lib.hid hb1
      have z1 : W0.heap.size ≤ W1.heap.size := hb1.size
      clear hown1 hb1 q0 q1 HG
      go_wp2_with fail
      go_loopw [6, 8, 27] (fun v _ i wr => ∃ j : Nat, j ≤ 2 ∧ i = .int .i64 j ∧ wr.ownsRow W0.heap.size 3 1 v (catL l1 l2 j).length (numL (catL l1 l2 j)) ∧ Below W0.heap.size W0 wr ∧ ∃ A c, v = .slice A (catL l1 l2 j).length c) (fun _ _ i _ => 2 - (intOf i).toNat)
      case atStart => exact ⟨0, by omega, rfl, HO1.out, HB1.out, _, _, rfl⟩
      case round =>
        obtain ⟨R, rfl⟩ : ∃ R, R = wr := ⟨_, rfl⟩
        obtain ⟨j, hj, rfl, hown, hb, A4, c4, rfl⟩ := hrel
        have zR : W0.heap.size ≤ R.heap.size := hb.size
        have qz2 : Q < R.heap.size := Nat.lt_of_lt_of_le qz zR
        have HO := Lib.hid hown
        have HB := Lib.hid hb
        have hob := row_block HO.out
        rcases (by omega : j = 0 ∨ j = 1 ∨ j = 2) with e | e | e <;> subst e
        · have hq := (hb.cell (p := ⟨Q, 0, none⟩) qz).trans Q0.out
          have h3 := H1.out.next hb
          clear hown hb
          rcases A1 with _ | x
          · have hc0 : c1 = 0 := h3.2.2.1 rfl
            have hn0 : n1 = 0 := by have := h3.1; omega
            subst hc0 hn0
            have hl1 : l1 = [] := List.length_eq_zero_iff.1 HN1.out.symm
            have HC := Lib.hid (show catL l1 l2 0 = catL l1 l2 1 by rw [hl1]; rfl)
            clear h3 hl1
            go_wp2_with (at_builtin; refine wpList_append_own_none rfl _ _ _ rfl W0.heap.size 3 i0 1 Try.underlying26 hi0 _ _ _ rfl HO.out rfl ?_)
            refine ⟨⟨_, _, _, _, _, _, _, _, _, _, ⟨1, by omega, by first | rfl | go_num | simp, by rw [← HC.out]; exact HO.out, HB.out, by rw [← HC.out]; exact ⟨_, _, rfl⟩⟩, by simp; (try exact ⟨rfl, rfl, rfl, rfl, rfl, rfl, rfl, rfl⟩)⟩, by simp [intOf]⟩
          · have HC := Lib.hid (nums_news h3 HN1.out.symm)
            clear h3
            go_wp2_with (at_builtin; refine wpList_append_own _ rfl _ _ 26 rfl W0.heap.size 3 i0 (.int .i64 0) 1 8 Try.underlying26 hi0 hz0 hz1 hz2 rfl (by decide) _ (catL l1 l2 0).length (numL (catL l1 l2 0)) rfl HO.out x n1 c1 (numL l1) rfl ?c1 HC.out (numL_one l1) ?c3 ?c4 zR ?_)
            case c1 => rw [numL_length, ← HN1.out]; omega
            case c3 => simp only [maxLen, catL, List.length_nil]; omega
            case c4 => simp only [catL, List.length_nil]; omega
            intro v' w1 hown' hgrow _
            have e1 : (catL l1 l2 0).length + n1 = (catL l1 l2 1).length := by simp only [catL, List.length_nil]; rw [HN1.out]; omega
            rw [e1, numL_append] at hown'
            obtain ⟨A5, c5, rfl, _⟩ := row_slice hown'
            have HN := Lib.hid (show w1.ownsRow W0.heap.size 3 1 (.slice A5 (catL l1 l2 1).length c5) (catL l1 l2 1).length (numL (catL l1 l2 1)) from hown')
            have HB2 := Lib.hid (HB.out.grown hgrow zR hob)
            clear hown' hgrow e1 hob
            go_wp2
            exact ⟨⟨1, by omega, by first | rfl | go_num | simp, HN.out, HB2.out, _, _, rfl⟩, by simp [intOf]⟩
        · have hq := (hb.cell (p := ⟨Q, 1, none⟩) qz).trans Q1.out
          have h3 := H2.out.next hb
          clear hown hb
          rcases A2 with _ | x
          · have hc0 : c2 = 0 := h3.2.2.1 rfl
            have hn0 : n2 = 0 := by have := h3.1; omega
            subst hc0 hn0
            have hl2 : l2 = [] := List.length_eq_zero_iff.1 HN2.out.symm
            have HC := Lib.hid (show catL l1 l2 1 = catL l1 l2 2 by rw [hl2]; simp [catL])
            clear h3 hl2
            go_wp2_with (at_builtin; refine wpList_append_own_none rfl _ _ _ rfl W0.heap.size 3 i0 1 Try.underlying26 hi0 _ _ _ rfl HO.out rfl ?_)
            refine ⟨⟨_, _, _, _, _, _, _, _, _, _, ⟨2, by omega, by first | rfl | go_num | simp, by rw [← HC.out]; exact HO.out, HB.out, by rw [← HC.out]; exact ⟨_, _, rfl⟩⟩, by simp; (try exact ⟨rfl, rfl, rfl, rfl, rfl, rfl, rfl, rfl⟩)⟩, by simp [intOf]⟩
          · have HC := Lib.hid (nums_news h3 HN2.out.symm)
            clear h3
            go_wp2_with (at_builtin; refine wpList_append_own _ rfl _ _ 26 rfl W0.heap.size 3 i0 (.int .i64 0) 1 8 Try.underlying26 hi0 hz0 hz1 hz2 rfl (by decide) _ (catL l1 l2 1).length (numL (catL l1 l2 1)) rfl HO.out x n2 c2 (numL l2) rfl ?c1 HC.out (numL_one l2) ?c3 ?c4 zR ?_)
            case c1 => rw [numL_length, ← HN2.out]; omega
            case c3 => simp only [maxLen, catL]; rw [← HN1.out]; omega
            case c4 => simp only [catL]; rw [← HN1.out]; omega
            intro v' w1 hown' hgrow _
            have e1 : (catL l1 l2 1).length + n2 = (catL l1 l2 2).length := by simp only [catL, List.length_append]; rw [HN2.out]
            rw [e1, numL_append] at hown'
            obtain ⟨A5, c5, rfl, _⟩ := row_slice hown'
            have HN := Lib.hid (show w1.ownsRow W0.heap.size 3 1 (.slice A5 (catL l1 l2 2).length c5) (catL l1 l2 2).length (numL (catL l1 l2 2)) from hown')
            have HB2 := Lib.hid (HB.out.grown hgrow zR hob)
            clear hown' hgrow e1 hob
            go_wp2
            exact ⟨⟨2, by omega, by first | rfl | go_num | simp, HN.out, HB2.out, _, _, rfl⟩, by simp [intOf]⟩
        · clear hown hb
          go_wp2_with fail
          go_ret
          obtain ⟨A5, c5, e5, hn5, _⟩ := nums_of_row HO.out
          injection e5 with e5 _ e6
          subst e5 e6
          exact ⟨_, _, rfl, hn5, HB.out⟩

/-- A list of addresses of fields. -/
theorem objSlots_zero (w : World) (B : Nat) : Arr w B none 0 0 (fun _ => 0) ∧ Tab w B none 0 0 (fun _ => frFree) := ⟨Arr.nil _ _ _, Tab.nil _ _ _⟩

set_option maxHeartbeats 2000000 in
theorem objSlots_any (s : Int) (A A' : Option Addr) (nw c n c' : Nat) (wd : Nat → Int) (F : Nat → Fr) (a : Int) (w : World) (hA : Arr w w.heap.size A nw c wd) (hT : Tab w w.heap.size A' n c' F) (hu : U64w nw wd)
    (a0 : -9223372036854775808 ≤ a) (a1 : a ≤ 9223372036854775807) :
    Calls Try.prog 21 #[.agg #[.int .i64 s, .slice A nw c, .slice A' n c'], .int .i64 a] w (GivesLst (sltL s nw wd n F a) (shpE s nw wd n F a) w) := by
  obtain ⟨U, hU⟩ : ∃ U, U = w.alloc (.cells #[.int .i64 s, .slice A nw c, .slice A' n c'] 25) := ⟨_, rfl⟩
  have BU : Blk U w.heap.size 25 #[.int .i64 s, .slice A nw c, .slice A' n c'] := by rw [hU]; exact Blk.new _ _ _
  have HBU : Hid (Below w.heap.size w U) := by rw [hU]; exact (Below.refl _ _).alloc (Nat.le_refl _) _
  have HU := Lib.hid hU
  have HA := Lib.hid (hA.next HBU.out)
  have HT := Lib.hid (hT.next HBU.out)
  have c1 := objDec_any s A A' nw c n c' wd F a U HA.out HT.out hu a0 a1
  have hr := shp_range (s := s) (n := n) (F := F) (a := a) hu
  have p0 := BU.cell 0
  have p1 := BU.cell 1
  have p2 := BU.cell 2
  have pz := BU.lt
  simp at p0 p1 p2
  have HS := Lib.hid (show shpE s nw wd n F a ≠ 0 → sltL s nw wd n F a = [] from fun h => by unfold sltL shpR; rw [if_neg h]; rfl)
  obtain ⟨R, hR⟩ : ∃ R : Nat, shpR s nw wd n F a = R := ⟨(shpR s nw wd n F a).toNat, by omega⟩
  obtain ⟨D, hD⟩ : ∃ D, shpD s nw wd n F a = D := ⟨_, rfl⟩
  rw [hR, hD] at hr
  have AD : shpE s nw wd n F a = 0 → ∀ W, Below U.heap.size U W → Calls Try.prog 43 #[.agg #[.int .i64 s, .slice A nw c, .slice A' n c', .int .i64 a, .int .i64 R, .int .i64 D], .func (.func 44) #[] #[], .int .i64 R] W (GivesNums (sltL s nw wd n F a) W) := fun h0 W hW => by
    have h := addrRef_any s A A' nw c n c' wd F a R D R W (HA.out.next hW) (HT.out.next hW) a0 a1 (by omega) (by omega) (by omega) (by omega) (by omega) (fun i hi => by
      have hvp := validB_of (stp_iff.1 (shp_yes h0).1).1
      obtain ⟨s0, _⟩ := shB_yes hvp.1
      obtain ⟨K, rfl⟩ := Int.eq_ofNat_of_zero_le (show 0 ≤ s by omega)
      have h1 := (fld_step (i := i) (t := true) hu h0 (by omega) (by show (i : Int) < shpR K nw wd n F a; omega)).1
      obtain ⟨P, hP, _⟩ := stp_nat h1
      refine ⟨h1, ?_⟩
      show 0 ≤ stpV K nw wd n F a (fldK K nw wd n F a i true)
      omega)
    have e : sltL s nw wd n F a = (List.range R).map fun (i : Nat) => (stpV s nw wd n F a (atK R true i)).toNat := by
      unfold sltL; rw [hR, Int.toNat_natCast]; rfl
    rw [e]
    exact h
  have HAD := Lib.hid AD
  have HRR := Lib.hid hR
  have HDD := Lib.hid hD
  clear hA hT hU hR hD AD hr
  go_enter Try.func21, Try.ntmps21
  go_wp2_with fail
  rw [← HU.out]
  refine c1.mono ?_
  rintro e U1 (⟨y, h1, h2, rfl, hb1⟩ | ⟨h1, rfl, hb1⟩)
  · have E1 := Lib.hid h1
    have E2 := Lib.hid (HS.out (by rw [h1]; exact h2))
    have HB1 := Lib.hid (below_next HBU.out (Nat.le_refl _) hb1)
    obtain ⟨U2, hU2⟩ : ∃ U2, U2 = U1.alloc (.cells #[.int .i64 0, .slice none 0 0, .slice none 0 0, .int .i64 0, .int .i64 0, .int .i64 0] 76) := ⟨_, rfl⟩
    have hb2 : Below U1.heap.size U1 U2 := by rw [hU2]; exact (Below.refl _ _).alloc (Nat.le_refl _) _
    have BO : Blk U2 U1.heap.size 76 #[.int .i64 0, .slice none 0 0, .slice none 0 0, .int .i64 0, .int .i64 0, .int .i64 0] := by rw [hU2]; exact Blk.new _ _ _
    have HB2 := Lib.hid (below_next HB1.out (Nat.le_refl _) hb2)
    have HU2 := Lib.hid hU2
    have o0 := BO.cell 0
    have o1 := BO.cell 1
    have o2 := BO.cell 2
    have o3 := BO.cell 3
    have o4 := BO.cell 4
    have o5 := BO.cell 5
    have oz := BO.lt
    simp at o0 o1 o2 o3 o4 o5
    have AZ := Lib.hid (addrRef_any 0 none none 0 0 0 0 (fun _ => 0) (fun _ => frFree) 0 0 0 0 U2 (Arr.nil _ _ _) (Tab.nil _ _ _) (by decide) (by decide) (by decide) (by decide) (by decide) (by decide) (by decide) (fun i hi => absurd hi (by omega)))
    unfold zObj
    clear h1 h2 hb1 hb2 p0 p1 p2 hU2 HS HAD
    go_upto_region 2 with fail
    rw [← HU2.out]
    go_wp2_with fail
    refine AZ.out.mono ?_
    rintro e U3 ⟨A3, c3, rfl, hn3, hb3⟩
    have HB3 := Lib.hid (below_next HB2.out (Nat.le_refl _) hb3)
    have HN3 := Lib.hid hn3
    clear hb3 hn3
    go_wp2_with fail
    go_ret2
    refine ⟨A3, c3, ?_, by rw [E2.out]; exact HN3.out, HB3.out⟩
    rw [E1.out, E2.out]
    rfl
  · have E1 := Lib.hid h1
    have HBB := Lib.hid hb1
    unfold ObjV
    rw [HRR.out, HDD.out]
    obtain ⟨U2, hU2⟩ : ∃ U2, U2 = U1.alloc (.cells #[.int .i64 s, .slice A nw c, .slice A' n c', .int .i64 a, .int .i64 R, .int .i64 D] 76) := ⟨_, rfl⟩
    have hb2 : Below U1.heap.size U1 U2 := by rw [hU2]; exact (Below.refl _ _).alloc (Nat.le_refl _) _
    have BO : Blk U2 U1.heap.size 76 #[.int .i64 s, .slice A nw c, .slice A' n c', .int .i64 a, .int .i64 R, .int .i64 D] := by rw [hU2]; exact Blk.new _ _ _
    have HB2 := Lib.hid (below_next HBB.out (Nat.le_refl _) hb2)
    have HU2 := Lib.hid hU2
    have o0 := BO.cell 0
    have o1 := BO.cell 1
    have o2 := BO.cell 2
    have o3 := BO.cell 3
    have o4 := BO.cell 4
    have o5 := BO.cell 5
    have oz := BO.lt
    simp at o0 o1 o2 o3 o4 o5
    have AZ := Lib.hid (HAD.out h1 U2 HB2.out)
    clear h1 hb1 hb2 p0 p1 p2 hU2 HS HAD
    go_upto_region 2 with fail
    rw [← HU2.out]
    go_wp2_with fail
    refine AZ.out.mono ?_
    rintro e U3 ⟨A3, c3, rfl, hn3, hb3⟩
    have HB3 := Lib.hid (below_next HBU.out (Nat.le_refl _) (below_next HB2.out (Nat.le_refl _) hb3))
    have HN3 := Lib.hid hn3
    clear hb3 hn3
    go_wp2_with fail
    go_ret2
    refine ⟨A3, c3, ?_, HN3.out, HB3.out⟩
    rw [E1.out]
    rfl
end Go.Proofs.Ytfjdafnejhgijaa
