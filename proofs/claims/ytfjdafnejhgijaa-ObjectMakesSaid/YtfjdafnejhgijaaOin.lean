/-
  Contract of package object: Init.
-/
import Derived.Test.YtfjdafnejhgijaaCat
import Derived.Deep.RegionHeld3
import Derived.Deep.DeepCutAuto
import Derived.Deep.CutBlock
namespace Go.Proofs.Ytfjdafnejhgijaa
open Go.RowKit
set_option maxRecDepth 100000
set_option linter.unusedVariables false

theorem stp_ne1 {s : Int} {nw : Nat} {wd : Nat → Int} {n : Nat} {F : Nat → Fr} {a k : Int} (h : validB s nw wd n F = true) : stpE s nw wd n F a k ≠ 1 := by
  unfold stpE
  rw [if_neg (by simp [h])]
  split
  · decide
  · split
    · decide
    · split <;> decide
/-- Numbers stay where a word is written. -/
theorem Nums.put {w : World} {B n c x P : Nat} {A : Option Addr} {f : Nat → Int} {v : Int} (h : Nums w B A n c f) (hw : w.cell? ⟨x, P, none⟩ = some (.int .u64 v)) (u : Value) : Nums (w.setCell ⟨x, P, none⟩ u) B A n c f := by
  refine ⟨h.1, h.2.1, h.2.2.1, fun hn => ?_⟩
  obtain ⟨b, o, hA, hb, hc⟩ := h.2.2.2 hn
  refine ⟨b, o, hA, hb, fun j hj => ?_⟩
  rw [World.cell?_setCell_other]
  · exact hc j hj
  · intro e
    have h1 := hc j hj
    first
      | rw [e, hw] at h1
      | rw [← e, hw] at h1
    cases h1
/-- The addresses of all fields, in the order in which Init empties them. -/
noncomputable def iniL (s : Int) (nw : Nat) (wd : Nat → Int) (n : Nat) (F : Nat → Fr) (a : Int) (N : Nat) : List Nat := (List.range N).map fun (t : Nat) => (stpV s nw wd n F a ((t + 1 : Nat) : Int)).toNat
theorem iniL_cat {s : Int} {nw : Nat} {wd : Nat → Int} {n : Nat} {F : Nat → Fr} {a : Int} (R D : Nat) :
    ((List.range R).map fun (i : Nat) => (stpV s nw wd n F a (atK R true i)).toNat) ++ ((List.range D).map fun (i : Nat) => (stpV s nw wd n F a (atK R false i)).toNat) = iniL s nw wd n F a (R + D) := by
  refine List.ext_getElem? fun j => ?_
  unfold iniL
  rcases Nat.lt_or_ge j R with h | h
  · rw [List.getElem?_append_left (by simpa using h)]
    simp only [List.getElem?_map, List.getElem?_range h, List.getElem?_range (show j < R + D by omega), Option.map_some]
    congr 3
    show 1 + (j : Int) = ((j + 1 : Nat) : Int)
    omega
  · rw [List.getElem?_append_right (by simpa using h)]
    simp only [List.length_map, List.length_range]
    rcases Nat.lt_or_ge j (R + D) with h2 | h2
    · simp only [List.getElem?_map, List.getElem?_range (show j - R < D by omega), List.getElem?_range h2, Option.map_some]
      congr 3
      show 1 + (R : Int) + ((j - R : Nat) : Int) = ((j + 1 : Nat) : Int)
      omega
    · rw [List.getElem?_eq_none (by simp; omega), List.getElem?_eq_none (by simp; omega)]
theorem iniL_length {s : Int} {nw : Nat} {wd : Nat → Int} {n : Nat} {F : Nat → Fr} {a : Int} {N : Nat} : (iniL s nw wd n F a N).length = N := by simp [iniL]
theorem iniL_get {s : Int} {nw : Nat} {wd : Nat → Int} {n : Nat} {F : Nat → Fr} {a : Int} {N t : Nat} (h : t < N) : numF (iniL s nw wd n F a N) t = ((stpV s nw wd n F a ((t + 1 : Nat) : Int)).toNat : Int) := by
  unfold numF iniL
  rw [List.getD_eq_getElem?_getD, List.getElem?_map, List.getElem?_range h]
  rfl

theorem concat_new (A1 A2 : Option Addr) (l1 l2 : List Nat) (c1 c2 : Nat) (w : World) (h1 : Nums w w.heap.size A1 l1.length c1 (numF l1)) (h2 : Nums w w.heap.size A2 l2.length c2 (numF l2)) (b1 : l1.length ≤ 1000) (b2 : l2.length ≤ 1000) :
    Calls Try.prog 42 #[.slice (some ⟨w.heap.size, 0, none⟩) 2 2] (w.alloc (.cells #[.slice A1 l1.length c1, .slice A2 l2.length c2] 26)) (GivesNums (l1 ++ l2) w) := by
  have hb : Below w.heap.size w (w.alloc (.cells #[.slice A1 l1.length c1, .slice A2 l2.length c2] 26)) := (Below.refl _ _).alloc (Nat.le_refl _) _
  have B := Blk.new w 26 #[.slice A1 l1.length c1, .slice A2 l2.length c2]
  refine (concat_any w.heap.size A1 A2 l1 l2 c1 c2 _ (h1.next hb) (h2.next hb) (B.cell 0) (B.cell 1) b1 b2).mono ?_
  rintro e w' ⟨A, c, h3, h4, h5⟩
  exact ⟨A, c, h3, h4, below_next hb (Nat.le_refl _) h5⟩
/-- At the head of Init's loop. -/
def IniAt (K nw n : Nat) (F : Nat → Fr) (wd : Nat → Int) (a lv : Int) (N x g base c c' bo br : Nat) (A : Option Addr) (cA : Nat) (w : World) (i : Value) (wr : World) : Prop :=
  ∃ t : Nat, t ≤ N ∧ i = .int .i64 t ∧ Own wr base (some ⟨x, 0, none⟩) nw c (iniW K nw wd n F a lv t) ∧ OwnT wr base (some ⟨g, 0, none⟩) n c' F ∧
    Blk wr bo 25 #[.int .i64 K, .slice (some ⟨x, 0, none⟩) nw c, .slice (some ⟨g, 0, none⟩) n c'] ∧ Blk wr br 25 #[.int .i64 0, .slice none 0 0, .slice none 0 0] ∧
    Nums wr wr.heap.size A N cA (numF (iniL K nw wd n F a N)) ∧ Below w.heap.size w wr

set_option maxHeartbeats 8000000 in
theorem objInit_any (s : Int) (A A' : Option Addr) (nw c n c' : Nat) (wd : Nat → Int) (F : Nat → Fr) (a r d : Int) (w : World) (hA : Arr w w.heap.size A nw c wd) (hT : Tab w w.heap.size A' n c' F)
    (a0 : -9223372036854775808 ≤ a) (a1 : a ≤ 9223372036854775807) (r0 : -9223372036854775808 ≤ r) (r1 : r ≤ 9223372036854775807) (d0 : -9223372036854775808 ≤ d) (d1 : d ≤ 9223372036854775807) :
    Calls Try.prog 16 #[.agg #[.int .i64 s, .slice A nw c, .slice A' n c'], .int .i64 a, .int .i64 r, .int .i64 d] w (IniOut s nw n wd F a r d w) := by
  have HA := Lib.hid hA
  have HT := Lib.hid hT
  obtain ⟨U, hU⟩ : ∃ U, U = (w.alloc (.cells #[.int .i64 s, .slice A nw c, .slice A' n c'] 25)).alloc (.cells #[.int .i64 0, .slice none 0 0, .slice none 0 0] 25) := ⟨_, rfl⟩
  have BS : Blk U w.heap.size 25 #[.int .i64 s, .slice A nw c, .slice A' n c'] := by rw [hU]; exact (Blk.new _ _ _).alloc _
  have BR : Blk U (w.heap.size + 1) 25 #[.int .i64 0, .slice none 0 0, .slice none 0 0] := by rw [hU]; exact Blk.newAt _ _ _ _ (by simp)
  have HBU : Hid (Below w.heap.size w U) := by rw [hU]; exact ((Below.refl _ _).alloc (Nat.le_refl _) _).alloc (by simp) _
  have HU := Lib.hid hU
  have c1 := step5_any s A A' nw c n c' wd F a 0 U (HA.out.next HBU.out) (HT.out.next HBU.out) a0 a1 (by decide) (by decide)
  clear hA hT hU
  have p0 := BS.cell 0
  have p1 := BS.cell 1
  have p2 := BS.cell 2
  have zS := BS.lt
  simp at p0 p1 p2
  cases hv : validB s nw wd n F with
  | false =>
    have HV := Lib.hid hv
    rw [(stp_bad (a := a) (k := 0) hv).1, (stp_bad (a := a) (k := 0) hv).2] at c1
    clear hv
    go_enter Try.func16, Try.ntmps16
    go_wp2_with fail
    rw [← HU.out]
    refine c1.mono ?_
    rintro e U1 ⟨rfl, hb1⟩
    have BR1 := BR.next hb1
    have HB1 : Hid (Below w.heap.size w U1) := below_next HBU.out (Nat.le_refl _) hb1
    have r0' := BR1.cell 0
    have r1' := BR1.cell 1
    have r2' := BR1.cell 2
    have rf0 := BR1.frozen 0
    have rf1 := BR1.frozen 1
    have rf2 := BR1.frozen 2
    have zR := BR1.lt
    simp at r0' r1' r2'
    clear hb1 p0 p1 p2 zS
    go_wp2_with fail
    refine bodyPost_ret (v := .tuple #[.agg #[.int .i64 0, .slice none 0 0, .slice none 0 0], .int .i64 1]) (by simp [results, Try.results16, go_sem, r0', r1', r2']) rfl (.inl ⟨1, ini_bad HV.out, by decide, rfl, below_put3 HB1.out (by omega) _ _ _⟩)
  | true =>
    have hvp := validB_of hv
    obtain ⟨s0, s8⟩ := shB_yes hvp.1
    obtain ⟨K, rfl⟩ := Int.eq_ofNat_of_zero_le (show 0 ≤ s by omega)
    obtain ⟨n2, n64, nw0, nw1⟩ := sp_bounds hvp
    have HVP := Lib.hid hvp
    have HV := Lib.hid hv
    obtain ⟨y1, hy1⟩ : ∃ y, y = stpE K nw wd n F a 0 := ⟨_, rfl⟩
    obtain ⟨v1, hv1⟩ : ∃ v, v = stpV K nw wd n F a 0 := ⟨_, rfl⟩
    rw [← hy1, ← hv1] at c1
    have hne1 : (y1 == 1) = false := by
      have := stp_ne1 (a := a) (k := 0) hv
      simp
      rw [hy1]; exact this
    have cl := Hd.live_any r d r0 r1 d0 d1
    clear hv hvp hy1 hv1
    by_cases hin : 0 ≤ r ∧ r ≤ 15 ∧ 0 ≤ d ∧ d ≤ 32
    · have HE := Lib.hid (ini_in (s := K) (nw := nw) (wd := wd) (n := n) (F := F) (a := a) HV.out hin)
      rw [(Hd.live_in hin).2] at cl
      obtain ⟨lv, hlv⟩ : ∃ lv, lv = Hd.liveV r d := ⟨_, rfl⟩
      rw [← hlv] at cl
      have HLV := Lib.hid hlv
      obtain ⟨R, rfl⟩ := Int.eq_ofNat_of_zero_le hin.1
      obtain ⟨D, rfl⟩ := Int.eq_ofNat_of_zero_le hin.2.2.1
      have hRD : R ≤ 15 ∧ D ≤ 32 := by omega
      have PL : ∀ W, Below U.heap.size U W → Calls Try.prog 40 #[.agg #[.int .i64 K, .slice A nw c, .slice A' n c'], .int .i64 a, .int .i64 R, .int .i64 D] W (PlaceOut K A nw c A' n c' wd F a R D W) := fun W hW =>
        objPlace_any K A A' nw c n c' wd F a R D W ((HA.out.next HBU.out).next hW) ((HT.out.next HBU.out).next hW) a0 a1 hin.1 hin.2.1 hin.2.2.1 hin.2.2.2
      have HPL := Lib.hid PL
      clear hin hlv PL
      go_enter Try.func16, Try.ntmps16
      go_wp2_with fail
      rw [← HU.out]
      refine c1.mono ?_
      rintro e U1 ⟨rfl, hb1⟩
      have BS1 := BS.next hb1
      have BR1 := BR.next hb1
      have HB1 := Lib.hid hb1
      clear p0 p1 p2 zS
      have p0 := BS1.cell 0
      have p1 := BS1.cell 1
      have p2 := BS1.cell 2
      have zS := BS1.lt
      simp at p0 p1 p2
      clear hb1 BS BR
      go_wp2_with fail
      refine (cl _).mono ?_
      rintro e w' ⟨rfl, rfl⟩
      go_wp2_with fail
      refine (HPL.out _ HB1.out).mono ?_
      rintro e U2 (⟨y, h1, h2, rfl, hb2⟩ | ⟨h1, rfl, hb2⟩)
      · have hne : (y != 0) = true := by simpa using h2
        have H1 := Lib.hid h1
        have H2 := Lib.hid h2
        have HB2 := Lib.hid (below_next HBU.out (Nat.le_refl _) (below_next HB1.out (Nat.le_refl _) hb2))
        have BR2 := BR1.next hb2
        have z2 := BR2.lt
        obtain ⟨V, hV⟩ : ∃ V, V = U2.alloc (.cells #[.int .i64 0, .slice none 0 0, .slice none 0 0, .int .i64 0, .int .i64 0, .int .i64 0] 76) := ⟨_, rfl⟩
        have hbv : Below U2.heap.size U2 V := by rw [hV]; exact (Below.refl _ _).alloc (Nat.le_refl _) _
        have BR3 := BR2.next hbv
        have HB3 := Lib.hid (below_next HB2.out (Nat.le_refl _) hbv)
        have HVV := Lib.hid hV
        have r0' := BR3.cell 0
        have r1' := BR3.cell 1
        have r2' := BR3.cell 2
        have rf0 := BR3.frozen 0
        have rf1 := BR3.frozen 1
        have rf2 := BR3.frozen 2
        have zR := BR3.lt
        simp at r0' r1' r2'
        unfold zObj
        clear h1 h2 hb2 p0 p1 p2 zS hV hbv
        go_upto_region 8 with fail
        rw [← HVV.out]
        go_wp2_with fail
        refine bodyPost_ret (v := .tuple #[.agg #[.int .i64 0, .slice none 0 0, .slice none 0 0], .int .i64 y]) (by simp [results, Try.results16, go_sem, r0', r1', r2']) rfl (.inl ⟨y, HE.out.trans H1.out, H2.out, rfl, below_put3 HB3.out (by omega) _ _ _⟩)
      · have H1 := Lib.hid h1
        have HB2 := Lib.hid (below_next HBU.out (Nat.le_refl _) (below_next HB1.out (Nat.le_refl _) hb2))
        have BS2 := BS1.next hb2
        have BR2 := BR1.next hb2
        obtain ⟨V, hV⟩ : ∃ V, V = U2.alloc (.cells #[.int .i64 K, .slice A nw c, .slice A' n c', .int .i64 a, .int .i64 R, .int .i64 D] 76) := ⟨_, rfl⟩
        have hbv : Below U2.heap.size U2 V := by rw [hV]; exact (Below.refl _ _).alloc (Nat.le_refl _) _
        have BO : Blk V U2.heap.size 76 #[.int .i64 K, .slice A nw c, .slice A' n c', .int .i64 a, .int .i64 R, .int .i64 D] := by rw [hV]; exact Blk.new _ _ _
        have BS3 := BS2.next hbv
        have BR3 := BR2.next hbv
        have HB3 := Lib.hid (below_next HB2.out (Nat.le_refl _) hbv)
        have HVV := Lib.hid hV
        clear p0 p1 p2 zS
        have p0 := BS3.cell 0
        have p1 := BS3.cell 1
        have p2 := BS3.cell 2
        have zS := BS3.lt
        simp at p0 p1 p2
        unfold ObjV
        clear h1 hb2 hV hbv BS1 BS2 BR1 BR2
        go_upto_region 8 with fail
        rw [← HVV.out]
        go_wp2_with fail
        refine (objClone_any K A A' nw c n c' wd F V (HA.out.next HB3.out) (HT.out.next HB3.out) (by omega) (by omega) (by omega) (by omega)).mono ?_
        rintro e U4 ⟨A1, c1', g, c2, rfl, ho, ht, hb4⟩
        obtain ⟨x, rfl, xb, xz⟩ := ho.where_ nw0
        have hgb := ht.bounds
        have z3 : w.heap.size + 1 < V.heap.size := BR3.lt
        have zO : U2.heap.size < V.heap.size := BO.lt
        obtain ⟨X, hX⟩ : ∃ X, X = U4.alloc (.cells #[.int .i64 K, .slice (some ⟨x, 0, none⟩) nw c1', .slice (some ⟨g, 0, none⟩) n c2] 25) := ⟨_, rfl⟩
        have BN : Blk X U4.heap.size 25 #[.int .i64 K, .slice (some ⟨x, 0, none⟩) nw c1', .slice (some ⟨g, 0, none⟩) n c2] := by rw [hX]; exact Blk.new _ _ _
        have hbx : Below U4.heap.size U4 X := by rw [hX]; exact (Below.refl _ _).alloc (Nat.le_refl _) _
        have hbX := below_next hb4 (Nat.le_refl _) hbx
        have BR4 := BR3.next hbX
        have BO4 := BO.next hbX
        have HB4 := Lib.hid (below_next HB3.out (Nat.le_refl _) hbX)
        have HO4 := Lib.hid (ho.below hbx)
        have HT4 := Lib.hid (ht.below hbx)
        have HX := Lib.hid hX
        have zV : V.heap.size ≤ U4.heap.size := hb4.size
        clear ho ht hb4 hX hbx hbX BR3 BO BS3 p0 p1 p2 zS
        -- the header
        obtain ⟨P, hP, hlt⟩ := stp_nat (stp_less H1.out (j := 0) (by omega) (by omega))
        rw [stp_self (stp_less H1.out (j := 0) (by omega) (by omega))] at hP
        subst hP
        obtain ⟨gx, hgx, _, gx2, wc0, wf0, hnew⟩ := HO4.out.spot P hlt lv
        injection hgx with hgx
        injection hgx with hgx
        subst hgx
        have HNEW := Lib.hid (show Own (X.setCell ⟨x, P, none⟩ (.int .u64 lv)) V.heap.size (some ⟨x, 0, none⟩) nw c1' (iniW K nw wd n F P lv 0) by
          have e : (fun j => if j = P then lv else wd j) = iniW K nw wd n F P lv 0 := by
            funext j
            show _ = (if j = (P : Int).toNat then lv else wd j)
            rw [Int.toNat_natCast]
          rw [← e]; exact hnew)
        have HT5 := Lib.hid (HT4.out.beside HO4.out (turn_set (turn_below (a := X) (w := X) (Below.refl _ _)) P (.int .u64 lv))).1
        have BN5 := BN.far (p := ⟨x, P, none⟩) (show U4.heap.size ≠ x by omega) (.int .u64 lv)
        have BR5 := BR4.far (p := ⟨x, P, none⟩) (show w.heap.size + 1 ≠ x by omega) (.int .u64 lv)
        have BO5 := BO4.far (p := ⟨x, P, none⟩) (show U2.heap.size ≠ x by omega) (.int .u64 lv)
        have HB5 := HB4.out.setCell (p := ⟨x, P, none⟩) (show w.heap.size ≤ x by omega) (.int .u64 lv)
        obtain ⟨Y, hY⟩ : ∃ Y, Y = X.setCell ⟨x, P, none⟩ (.int .u64 lv) := ⟨_, rfl⟩
        have HAY := Lib.hid (show Arr Y Y.heap.size A nw c wd by
          rw [hY]
          refine ((HA.out.below HB5).more HB5.size))
        have HTY := Lib.hid (show Tab Y Y.heap.size A' n c' F by
          rw [hY]
          refine ((HT.out.below HB5).more HB5.size))
        rw [← hY] at HNEW HT5 BN5 BR5 BO5 HB5
        have HB5 := Lib.hid HB5
        have HY := Lib.hid hY
        have o0 := BN.cell 0
        have o1 := BN.cell 1
        have o2 := BN.cell 2
        have oz := BN.lt
        simp at o0 o1 o2
        have pi : 0 ≤ (P : Int) ∧ (P : Int) < nw := by omega
        clear hnew hY
        go_upto_region 11 with fail
        rw [← HX.out]
        go_upto_region 12 with fail
        rw [← HY.out]
        have HAR := Lib.hid (fun W (hW : Below Y.drew.heap.size Y.drew W) => addrRef_any K A A' nw c n c' wd F P R D R W ((show Arr Y.drew Y.drew.heap.size A nw c wd from HAY.out).next hW) ((show Tab Y.drew Y.drew.heap.size A' n c' F from HTY.out).next hW) a0 a1 (by omega) (by omega) (by omega) (by omega) (Int.le_refl _) (fun i hi => by
          have h := stp_less H1.out (j := atK R true i) (by show 0 ≤ 1 + (i : Int); omega) (by show 1 + (i : Int) ≤ _; omega)
          obtain ⟨Q, hQ, _⟩ := stp_nat h
          exact ⟨h, by omega⟩))
        have HAD := Lib.hid (fun W (hW : Below Y.drew.heap.size Y.drew W) => addrData_any K A A' nw c n c' wd F P R D D W ((show Arr Y.drew Y.drew.heap.size A nw c wd from HAY.out).next hW) ((show Tab Y.drew Y.drew.heap.size A' n c' F from HTY.out).next hW) a0 a1 (by omega) (by omega) (by omega) (by omega) (Int.le_refl _) (fun i hi => by
          have h := stp_less H1.out (j := atK R false i) (by show 0 ≤ 1 + (R : Int) + (i : Int); omega) (by show 1 + (R : Int) + (i : Int) ≤ _; omega)
          obtain ⟨Q, hQ, _⟩ := stp_nat h
          exact ⟨h, by omega⟩))
        obtain ⟨l1, hl1⟩ : ∃ l, l = (List.range R).map fun (i : Nat) => (stpV K nw wd n F P (atK R true i)).toNat := ⟨_, rfl⟩
        obtain ⟨l2, hl2⟩ : ∃ l, l = (List.range D).map fun (i : Nat) => (stpV K nw wd n F P (atK R false i)).toNat := ⟨_, rfl⟩
        have hcat : l1 ++ l2 = iniL K nw wd n F P (R + D) := by rw [hl1, hl2]; exact iniL_cat R D
        have b1 : l1.length ≤ 1000 := by rw [hl1]; simp; omega
        have b2 : l2.length ≤ 1000 := by rw [hl2]; simp; omega
        rw [← hl1] at HAR
        rw [← hl2] at HAD
        have HCC := Lib.hid (show ∀ (W : World) (A3 A4 : Option Addr) (c3 c4 : Nat), Nums W W.heap.size A3 l1.length c3 (numF l1) → Nums W W.heap.size A4 l2.length c4 (numF l2) → Calls Try.prog 42 #[.slice (some ⟨W.heap.size, 0, none⟩) 2 2] (W.alloc (.cells #[.slice A3 l1.length c3, .slice A4 l2.length c4] 26))
            (fun e w' => ∃ (A5 : Option Addr) (c5 : Nat), e = .returned (.slice A5 (R + D) c5) ∧ Nums w' w'.heap.size A5 (R + D) c5 (numF (iniL K nw wd n F P (R + D))) ∧ Below W.heap.size W w') from fun W A3 A4 c3 c4 h1 h2 => by
          refine (concat_new A3 A4 l1 l2 c3 c4 W h1 h2 b1 b2).mono ?_
          rintro e w' ⟨A5, c5, e1, e2, e3⟩
          rw [hcat, iniL_length] at e1 e2
          exact ⟨A5, c5, e1, e2, e3⟩)
        have y0 : Y.drew.cell? ⟨U2.heap.size, 0, none⟩ = some (.int .i64 K) := by have h := BO5.cell 0; simpa using h
        have y1 : Y.drew.cell? ⟨U2.heap.size, 1, none⟩ = some (.slice A nw c) := by have h := BO5.cell 1; simpa using h
        have y2 : Y.drew.cell? ⟨U2.heap.size, 2, none⟩ = some (.slice A' n c') := by have h := BO5.cell 2; simpa using h
        have y3 : Y.drew.cell? ⟨U2.heap.size, 3, none⟩ = some (.int .i64 P) := by have h := BO5.cell 3; simpa using h
        have y4 : Y.drew.cell? ⟨U2.heap.size, 4, none⟩ = some (.int .i64 R) := by have h := BO5.cell 4; simpa using h
        have y5 : Y.drew.cell? ⟨U2.heap.size, 5, none⟩ = some (.int .i64 D) := by have h := BO5.cell 5; simpa using h
        have yz : U2.heap.size < Y.drew.heap.size := BO5.lt
        have hc : Below Y.drew.heap.size Y.drew Y.drew := Below.refl _ _
        clear hl1 hl2 hcat o0 o1 o2 oz wc0 wf0
        go_region_held3 (fun w' => w'.cell? ⟨U2.heap.size, 0, none⟩ = some (.int .i64 K) ∧ w'.cell? ⟨U2.heap.size, 1, none⟩ = some (.slice A nw c) ∧ w'.cell? ⟨U2.heap.size, 2, none⟩ = some (.slice A' n c') ∧ w'.cell? ⟨U2.heap.size, 3, none⟩ = some (.int .i64 P) ∧ w'.cell? ⟨U2.heap.size, 4, none⟩ = some (.int .i64 R) ∧ w'.cell? ⟨U2.heap.size, 5, none⟩ = some (.int .i64 D))
          (first | (with_reducible exact ⟨y0, y1, y2, y3, y4, y5⟩) | (with_reducible exact ⟨(hc.cell (p := ⟨_, 0, none⟩) yz).trans y0, (hc.cell (p := ⟨_, 1, none⟩) yz).trans y1, (hc.cell (p := ⟨_, 2, none⟩) yz).trans y2, (hc.cell (p := ⟨_, 3, none⟩) yz).trans y3, (hc.cell (p := ⟨_, 4, none⟩) yz).trans y4, (hc.cell (p := ⟨_, 5, none⟩) yz).trans y5⟩) | go_keep)
          (first
            | (go_at_call 43; (with_reducible show Calls _ _ #[_, .func (.func 44) #[] #[], _] _ _); refine (HAR.out _ hc).mono ?_; rintro e wq ⟨A3, c3, rfl, hn3, hb⟩; have hc := below_next hc (Nat.le_refl _) hb; (try have hn4 := hn4.next hb))
            | (go_at_call 43; (with_reducible show Calls _ _ #[_, .func (.func 45) #[] #[], _] _ _); refine (HAD.out _ hc).mono ?_; rintro e wp ⟨A4, c4, rfl, hn4, hb'⟩; have hc := below_next hc (Nat.le_refl _) hb'; (try have hn3 := hn3.next hb'))
            | (go_at_call 42; refine (HCC.out _ A3 A4 c3 c4 hn3 hn4).mono ?_; rintro e wl ⟨A5, c5, rfl, hn5, hb5⟩; have hc := below_next hc (Nat.le_refl _) hb5))
        have HN5 := Lib.hid hn5
        have hYW : Below Y.heap.size Y wl := (show Below Y.heap.size Y Y.drew from (Below.refl _ _).drew).trans hc
        have HOW := Lib.hid (HNEW.out.below hYW)
        have HTW := Lib.hid (HT5.out.below hYW)
        have BNW := Lib.hid (BN5.next hYW)
        have BRW := Lib.hid (BR5.next hYW)
        have HBW := Lib.hid (below_next HB5.out (Nat.le_refl _) hYW)
        have xY : x < Y.heap.size := by
          obtain ⟨_, _, h | ⟨g', cur, hA', _, hg', _⟩⟩ := HNEW.out
          · cases h.1
          · injection hA' with hA'; injection hA' with hA'; subst hA'; exact blk_lt hg'
        clear hn5 hb hb' hb5 hn3 hn4 hc hYW y0 y1 y2 y3 y4 y5 HAR HAD HCC BN5 BR5 BO5 HNEW HT5
        go_wp2_with fail
        go_loopw [17, 66] (fun _ i wr => IniAt K nw n F wd P lv (R + D) x g V.heap.size c1' c2 U4.heap.size (w.heap.size + 1) A5 c5 w i wr) (fun _ i _ => R + D - (intOf i).toNat)
        case atStart => exact ⟨0, by omega, rfl, HOW.out, HTW.out, BNW.out, BRW.out, HN5.out, HBW.out⟩
        case round =>
          obtain ⟨t, ht, rfl, hO', hT', hN', hR', hL', hB'⟩ := hrel
          have HOO := Lib.hid hO'
          have HTT := Lib.hid hT'
          have HLL := Lib.hid hL'
          have HBB := Lib.hid hB'
          clear hO' hT' hL' hB'
          by_cases hlt2 : t < R + D
          · have hle : (t : Int) < ((R + D : Nat) : Int) := by omega
            have hle2 : (t : Int) < (R : Int) + D := by omega
            have ht0 : 0 ≤ (t : Int) ∧ (t : Int) < ((R + D : Nat) : Int) := by omega
            have ht2 : 0 ≤ (t : Int) ∧ (t : Int) < (R : Int) + D := by omega
            have hst : stpE K nw wd n F P (t + 1 : Nat) = 0 := stp_less H1.out (by omega) (by omega)
            obtain ⟨P2, hP2, hltp⟩ := stp_nat hst
            obtain ⟨b5, o5, rfl, hb5, hc5⟩ := HLL.out.at_ t hlt2
            rw [iniL_get hlt2, hP2, Int.toNat_natCast] at hc5
            obtain ⟨gx, hgx, _, gx2, wc0, wf0, hnew⟩ := HOO.out.spot P2 hltp 0
            injection hgx with hgx
            injection hgx with hgx
            subst hgx
            have hnw2 : (fun j => if j = P2 then (0 : Int) else iniW K nw wd n F P lv t j) = iniW K nw wd n F P lv (t + 1) := by
              funext j
              show _ = (if j = (stpV K nw wd n F P ((t + 1 : Nat) : Int)).toNat then (0 : Int) else iniW K nw wd n F P lv t j)
              rw [hP2, Int.toNat_natCast]
            rw [hnw2] at hnew
            have HNN := Lib.hid (show IniAt K nw n F wd P lv (R + D) x g V.heap.size c1' c2 U4.heap.size (w.heap.size + 1) (some ⟨b5, o5, none⟩) c5 w (.int .i64 ((t + 1 : Nat) : Int)) (wr.setCell ⟨x, P2, none⟩ (.int .u64 0)) from
              ⟨t + 1, by omega, rfl, hnew, (HTT.out.beside HOO.out (turn_set (turn_below (a := wr) (w := wr) (Below.refl _ _)) P2 (.int .u64 0))).1, hN'.far (p := ⟨x, P2, none⟩) (show U4.heap.size ≠ x by omega) _, hR'.far (p := ⟨x, P2, none⟩) (show w.heap.size + 1 ≠ x by omega) _,
                (HLL.out.put wc0 _).more (by simp), HBB.out.setCell (p := ⟨x, P2, none⟩) (show w.heap.size ≤ x by omega) _⟩)
            have q0 := hN'.cell 0
            have q1 := hN'.cell 1
            have q2 := hN'.cell 2
            have qz := hN'.lt
            simp at q0 q1 q2
            have pi2 : 0 ≤ (P2 : Int) ∧ (P2 : Int) < nw := by omega
            clear hst hP2 hnew hnw2
            go_wp2
            go_roundw
            case rel => exact (by simpa using HNN.out)
            case measure => simp [intOf]; omega
          · obtain rfl : t = R + D := by omega
            have hle : ¬ ((R + D : Nat) : Int) < (R : Int) + D := by omega
            have q0 := hN'.cell 0
            have q1 := hN'.cell 1
            have q2 := hN'.cell 2
            have qz := hN'.lt
            have r0' := hR'.cell 0
            have r1' := hR'.cell 1
            have r2' := hR'.cell 2
            have rf0 := hR'.frozen 0
            have rf1 := hR'.frozen 1
            have rf2 := hR'.frozen 2
            have rz := hR'.lt
            simp at q0 q1 q2 r0' r1' r2'
            go_wp2
            refine bodyPost_ret (v := .tuple #[.agg #[.int .i64 K, .slice (some ⟨x, 0, none⟩) nw c1', .slice (some ⟨g, 0, none⟩) n c2], .int .i64 0]) (by simp [results, Try.results16, go_sem, r0', r1', r2']) rfl (.inr ⟨HE.out.trans H1.out, _, _, _, _, rfl, ?_, ?_, ?_⟩)
            · rw [← HLV.out, show ((R : Int) + D).toNat = R + D by omega]
              exact (HOO.out.put3 z3 _ _ _).lower (by have := HB3.out.size; omega)
            · exact (HTT.out.put3 z3 _ _ _).lower (by have := HB3.out.size; omega)
            · exact below_put3 HBB.out (by omega) _ _ _
    · have HE := Lib.hid (ini_size (s := K) (nw := nw) (wd := wd) (n := n) (F := F) (a := a) HV.out hin)
      rw [(Hd.live_out hin).1, (Hd.live_out hin).2] at cl
      clear hin
      go_enter Try.func16, Try.ntmps16
      go_wp2_with fail
      rw [← HU.out]
      refine c1.mono ?_
      rintro e U1 ⟨rfl, hb1⟩
      have BR1 := BR.next hb1
      have HB1 : Hid (Below w.heap.size w U1) := below_next HBU.out (Nat.le_refl _) hb1
      have r0' := BR1.cell 0
      have r1' := BR1.cell 1
      have r2' := BR1.cell 2
      have rf0 := BR1.frozen 0
      have rf1 := BR1.frozen 1
      have rf2 := BR1.frozen 2
      have zR := BR1.lt
      simp at r0' r1' r2'
      clear hb1 p0 p1 p2 zS
      go_wp2_with fail
      refine (cl _).mono ?_
      rintro e w' ⟨rfl, rfl⟩
      go_wp2_with fail
      refine bodyPost_ret (v := .tuple #[.agg #[.int .i64 0, .slice none 0 0, .slice none 0 0], .int .i64 13]) (by simp [results, Try.results16, go_sem, r0', r1', r2']) rfl (.inl ⟨13, HE.out, by decide, rfl, below_put3 HB1.out (by omega) _ _ _⟩)
end Go.Proofs.Ytfjdafnejhgijaa
