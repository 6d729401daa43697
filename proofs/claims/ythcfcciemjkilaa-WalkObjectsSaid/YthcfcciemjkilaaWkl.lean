/-
  Contracts of layer 10, told of one answer: Objects, Live and Holds of both sides.
-/
import Derived.Test.YthcfcciemjkilaaWkw
import Derived.BigQuiet
namespace Go.Proofs.Ythcfcciemjkilaa
open Go.RowKit
set_option maxRecDepth 100000
set_option linter.unusedVariables false

section
variable {s : Int} {nw n : Nat} {wd : Nat → Int} {F : Nat → Fr} {sq bt fi la wo : Int} {l : List Nat} {y : Int}
/-- The sizes of the objects add up to the words of the increment. -/
theorem objs_sum (hu : U64w nw wd) (h : ObjsX s nw wd n F sq bt fi la wo l 0) :
    ∃ S : Nat → Int, S 0 = 0 ∧ S l.length = wo ∧ ∀ t, t < l.length → S (t + 1) = S t + 1 + shpR s nw wd n F (numF l t) + shpD s nw wd n F (numF l t) ∧ 0 ≤ S t ∧ S t ≤ 16384 := by
  rcases h with ⟨_, h, _⟩ | ⟨h1, h2⟩
  · cases h
  · obtain ⟨j, a1, a2, ⟨a3, _, rfl⟩ | ⟨_, _, h, _⟩⟩ := h2
    · by_cases hw : 0 < wo
      · obtain ⟨k, p, m, W, rfl, k3, k8, hv, rfl, hp, ho, hl, rfl, hW0, hW, hm, hWn⟩ := inc_chain9 h1 hw
        simp only [Int.toNat_natCast] at a1 a2 a3 ⊢
        rw [lstN_length]
        obtain ⟨_, _, _, nw1⟩ := sp_bounds hv
        refine ⟨fun t => ((posN k wd F p t : Nat) : Int), rfl, by show ((posN k wd F p j : Nat) : Int) = W; omega, fun t ht => ?_⟩
        have hs := posN_smono (K := k) (wd := wd) (F := F) (p := (p : Int)) ht
        obtain ⟨z, r, e1, _⟩ := addr_in hv hp ho hl (show posN k wd F p t < m * 2 ^ k by omega)
        obtain ⟨b1, b2, b3⟩ := next_shape hv hu hp ho hl hW rfl (show posN k wd F p t < W by omega) e1
        have e2 : numF (lstN k wd F p j) t = ((z * 2 ^ k + r : Nat) : Int) := by
          unfold numF
          rw [List.getD_eq_getElem?_getD, lstN_get ht, b1]
          rfl
        rw [e2]
        have h5 := posN_mono (K := k) (wd := wd) (F := F) (p := (p : Int)) (show t + 1 ≤ j from ht)
        have h4 := b3 (b2.2 ⟨a1 t ht, by omega⟩).1
        exact ⟨h4.2, by show 0 ≤ ((posN k wd F p t : Nat) : Int); omega, by show ((posN k wd F p t : Nat) : Int) ≤ 16384; omega⟩
      · obtain ⟨rfl, _, _⟩ := inc_zero9 h1 hw
        have hj := posN_ge (K := s.toNat) (wd := wd) (F := F) (p := fi) j
        have a4 : posN s.toNat wd F fi j = 0 := a3
        obtain rfl : j = 0 := by omega
        exact ⟨fun _ => 0, rfl, rfl, fun t ht => absurd ht (by simp [lstN])⟩
    · cases h
end

section
variable {s : Int} {nw n : Nat} {wd : Nat → Int} {F : Nat → Fr} {sq bt fi la wo : Int} {l : List Nat} {y : Int}
theorem objs10_row (A A' : Option Addr) (c c' : Nat) (w : World) (hA : Arr w w.heap.size A nw c wd) (hT : Tab w w.heap.size A' n c' F) (hu : U64w nw wd) (h : ObjsX s nw wd n F sq bt fi la wo l y) :
    Calls Try.prog 12 #[.agg #[.int .i64 s, .slice A nw c, .slice A' n c'], .agg #[.int .i64 sq, .int .i64 bt, .int .i64 fi, .int .i64 la, .int .i64 wo]] w (GivesRow l y w) :=
  (objs10_any s A A' nw c n c' wd F sq bt fi la wo w hA hT hu).mono fun e w' ⟨l', y', h1, h2⟩ => by
    obtain ⟨rfl, rfl⟩ := h2.uniq h
    exact h1
theorem objs10_of (A A' : Option Addr) (c c' : Nat) (w : World) (hA : Arr w w.heap.size A nw c wd) (hT : Tab w w.heap.size A' n c' F) (hu : U64w nw wd) (h : ObjsX s nw wd n F sq bt fi la wo l y) :
    Calls Try.prog 12 #[.agg #[.int .i64 s, .slice A nw c, .slice A' n c'], .agg #[.int .i64 sq, .int .i64 bt, .int .i64 fi, .int .i64 la, .int .i64 wo]] w (GivesLst l y w) :=
  (objs10_any s A A' nw c n c' wd F sq bt fi la wo w hA hT hu).mono fun e w' ⟨l', y', h1, h2⟩ => by
    obtain ⟨rfl, rfl⟩ := h2.uniq h
    exact h1.lst
theorem refObjs_of (A A' : Option Addr) (c c' : Nat) (w : World) (hA : Arr w w.heap.size A nw c wd) (hT : Tab w w.heap.size A' n c' F) (hu : U64w nw wd) (h : ObjsX s nw wd n F sq bt fi la wo l y) :
    Calls Try.prog 13 #[.agg #[.int .i64 s, .slice A nw c, .slice A' n c'], .agg #[.int .i64 sq, .int .i64 bt, .int .i64 fi, .int .i64 la, .int .i64 wo]] w (GivesLst l y w) :=
  (refObjs_any s A A' nw c n c' wd F sq bt fi la wo w hA hT hu).mono fun e w' ⟨l', y', h1, h2⟩ => by
    obtain ⟨rfl, rfl⟩ := h2.uniq h
    exact h1
theorem holds10_of (A A' : Option Addr) (c c' : Nat) (a : Int) (w : World) (hA : Arr w w.heap.size A nw c wd) (hT : Tab w w.heap.size A' n c' F) (hu : U64w nw wd) (h : ObjsX s nw wd n F sq bt fi la wo l y) :
    Calls Try.prog 17 #[.agg #[.int .i64 s, .slice A nw c, .slice A' n c'], .agg #[.int .i64 sq, .int .i64 bt, .int .i64 fi, .int .i64 la, .int .i64 wo], .int .i64 a] w fun e w' => e = .returned (.bool (memB l a)) ∧ Below w.heap.size w w' :=
  (holds10_any s A A' nw c n c' wd F sq bt fi la wo a w hA hT hu).mono fun e w' ⟨l', y', h2, h1⟩ => by
    obtain ⟨rfl, rfl⟩ := h2.uniq h
    exact h1
/-- What Live answers. -/
def liveN (l : List Nat) (y : Int) : Int := if y = 0 then l.length else 0
def liveW (wo y : Int) : Int := if y = 0 then wo else 0
set_option maxHeartbeats 1000000 in
theorem live10_of (A A' : Option Addr) (c c' : Nat) (w : World) (hA : Arr w w.heap.size A nw c wd) (hT : Tab w w.heap.size A' n c' F) (hu : U64w nw wd) (h : ObjsX s nw wd n F sq bt fi la wo l y) :
    Calls Try.prog 14 #[.agg #[.int .i64 s, .slice A nw c, .slice A' n c'], .agg #[.int .i64 sq, .int .i64 bt, .int .i64 fi, .int .i64 la, .int .i64 wo]] w (Gives3 (liveN l y) (liveW wo y) y w) := by
  obtain ⟨U, hU⟩ : ∃ U, U = (w.alloc (.cells #[.int .i64 s, .slice A nw c, .slice A' n c'] 25)).alloc (.cells #[.int .i64 sq, .int .i64 bt, .int .i64 fi, .int .i64 la, .int .i64 wo] 27) := ⟨_, rfl⟩
  have BS := Lib.hid (show Blk U w.heap.size 25 #[.int .i64 s, .slice A nw c, .slice A' n c'] by rw [hU]; exact (Blk.new _ _ _).alloc _)
  have BI := Lib.hid (show Blk U (w.heap.size + 1) 27 #[.int .i64 sq, .int .i64 bt, .int .i64 fi, .int .i64 la, .int .i64 wo] by rw [hU]; exact Blk.newAt _ _ _ _ (by simp))
  have HBU : Hid (Below w.heap.size w U) := by rw [hU]; exact ((Below.refl _ _).alloc (Nat.le_refl _) _).alloc (by simp) _
  have CO := objs10_of A A' c c' U (hA.next HBU.out) (hT.next HBU.out) hu h
  have hlen := objsX_small h
  have HU := Lib.hid hU
  obtain ⟨ln, hln⟩ : ∃ x, x = liveN l y := ⟨_, rfl⟩
  obtain ⟨lw, hlw⟩ : ∃ x, x = liveW wo y := ⟨_, rfl⟩
  rw [← hln, ← hlw]
  have HLN := Lib.hid hln
  have HLW := Lib.hid hlw
  clear hA hT hU hu h hln hlw
  go_enter Try.func14, Try.ntmps14
  go_wp2_with fail
  rw [← HU.out]
  refine CO.mono ?_
  rintro e U1 ⟨A5, c5, rfl, hn5, hb5⟩
  have HB5 := Lib.hid (below_next HBU.out (Nat.le_refl _) hb5)
  have BI1 := BI.out.next hb5
  have q4 := BI1.cell 4
  have qz := BI1.lt
  simp at q4
  clear hb5 CO hn5 BI1
  by_cases hy : y = 0
  · subst hy
    have e1 := Lib.hid (show ln = l.length from HLN.out.trans (if_pos rfl))
    have e2 := Lib.hid (show lw = wo from HLW.out.trans (if_pos rfl))
    go_upto_region 4 with fail
    go_quiet (fail)
    go_wp2
    exact bodyPost_ret (v := .tuple #[.int .i64 l.length, .int .i64 wo, .int .i64 0]) (by simp [results, Try.results14, go_sem]) rfl ⟨by rw [e1.out, e2.out], ⟨HB5.out.os, HB5.out.tape, HB5.out.output, HB5.out.size, HB5.out.block⟩⟩
  · have hy1 : (y != 0) = true := by simpa using hy
    have e1 := Lib.hid (show ln = 0 from HLN.out.trans (if_neg hy))
    have e2 := Lib.hid (show lw = 0 from HLW.out.trans (if_neg hy))
    clear hy
    go_wp2_with fail
    exact bodyPost_ret (v := .tuple #[.int .i64 0, .int .i64 0, .int .i64 y]) (by simp [results, Try.results14, go_sem]) rfl ⟨by rw [e1.out, e2.out], HB5.out⟩
set_option maxHeartbeats 2000000 in
theorem refLive_of (A A' : Option Addr) (c c' : Nat) (w : World) (hA : Arr w w.heap.size A nw c wd) (hT : Tab w w.heap.size A' n c' F) (hu : U64w nw wd) (h : ObjsX s nw wd n F sq bt fi la wo l y) :
    Calls Try.prog 15 #[.agg #[.int .i64 s, .slice A nw c, .slice A' n c'], .agg #[.int .i64 sq, .int .i64 bt, .int .i64 fi, .int .i64 la, .int .i64 wo]] w (Gives3 (liveN l y) (liveW wo y) y w) := by
  obtain ⟨U, hU⟩ : ∃ U, U = (w.alloc (.cells #[.int .i64 s, .slice A nw c, .slice A' n c'] 25)).alloc (.cells #[.int .i64 sq, .int .i64 bt, .int .i64 fi, .int .i64 la, .int .i64 wo] 27) := ⟨_, rfl⟩
  have BS := Lib.hid (show Blk U w.heap.size 25 #[.int .i64 s, .slice A nw c, .slice A' n c'] by rw [hU]; exact (Blk.new _ _ _).alloc _)
  have HBU : Hid (Below w.heap.size w U) := by rw [hU]; exact ((Below.refl _ _).alloc (Nat.le_refl _) _).alloc (by simp) _
  have HA := Lib.hid (hA.next HBU.out)
  have HT := Lib.hid (hT.next HBU.out)
  have HU64 := Lib.hid hu
  have HO := Lib.hid h
  have CO := refObjs_of A A' c c' U HA.out HT.out hu h
  have hlen := objsX_small h
  have HU := Lib.hid hU
  obtain ⟨ln, hln⟩ : ∃ x, x = liveN l y := ⟨_, rfl⟩
  obtain ⟨lw, hlw⟩ : ∃ x, x = liveW wo y := ⟨_, rfl⟩
  rw [← hln, ← hlw]
  have HLN := Lib.hid hln
  have HLW := Lib.hid hlw
  clear hA hT hU hu h hln hlw
  go_enter Try.func15, Try.ntmps15
  go_wp2_with fail
  rw [← HU.out]
  refine CO.mono ?_
  rintro e U1 ⟨A5, c5, rfl, hn5, hb5⟩
  have HB5 := Lib.hid (below_next HBU.out (Nat.le_refl _) hb5)
  have BS1 := Lib.hid (BS.out.next hb5)
  have HA1 := Lib.hid (HA.out.next hb5)
  have HT1 := Lib.hid (HT.out.next hb5)
  have HN5 := Lib.hid hn5
  clear hb5 CO hn5 HA HT BS
  by_cases hy : y = 0
  · subst hy
    have e1 := Lib.hid (show ln = l.length from HLN.out.trans (if_pos rfl))
    have e2 := Lib.hid (show lw = wo from HLW.out.trans (if_pos rfl))
    have hi : incB s nw wd n F sq bt fi la wo = true := by
      rcases HO.out with ⟨_, h, _⟩ | ⟨h, _⟩
      · exact absurd h (by decide)
      · exact h
    have hv := (incB_yes hi).1
    obtain ⟨k, rfl, _, _⟩ := valid_nat hv
    have HV := Lib.hid hv
    clear hi hv
    obtain ⟨S, hS0, hSL, hS⟩ := objs_sum HU64.out HO.out
    have HS0 := Lib.hid hS0
    have HSL := Lib.hid hSL
    have HS := Lib.hid hS
    clear hS0 hSL hS
    go_wp2_with fail
    go_loopw [9, 11, 12, 13, 14, 26] (fun nv _ _ _ _ iv wr => ∃ t : Nat, t ≤ l.length ∧ nv = .int .i64 (S t) ∧ iv = .int .i64 t ∧ Below U1.heap.size U1 wr) (fun _ _ _ _ _ iv _ => l.length - (intOf iv).toNat)
    case atStart => exact ⟨0, Nat.zero_le _, by rw [HS0.out], rfl, Below.refl _ _⟩
    case round =>
      obtain ⟨t, ht, rfl, rfl, hb⟩ := hrel
      by_cases hlt : t < l.length
      · have hx : 0 ≤ (t : Int) ∧ (t : Int) < l.length := by omega
        obtain ⟨b, o, rfl, hbb, hc1⟩ := HN5.out.at_ t hlt
        have hc2 := (hb.cell (p := ⟨b, o + t, none⟩) hbb).trans hc1
        have hbz : b < wr.heap.size := Nat.lt_of_lt_of_le hbb hb.size
        obtain ⟨h1, h2, h3⟩ := HS.out t hlt
        obtain ⟨v, hv⟩ : ∃ v, v = numF l t := ⟨_, rfl⟩
        obtain ⟨S0, hS0⟩ : ∃ v, v = S t := ⟨_, rfl⟩
        obtain ⟨S1, hS1⟩ : ∃ v, v = S (t + 1) := ⟨_, rfl⟩
        rw [← hv] at hc2 h1
        rw [← hS0] at h1 h2 h3 ⊢
        rw [← hS1] at h1
        have BS2 := BS1.out.next hb
        have p0 := BS2.cell 0
        have p1 := BS2.cell 1
        have p2 := BS2.cell 2
        have pz := BS2.lt
        simp at p0 p1 p2
        have hr := shp_range (s := k) (n := n) (F := F) (a := v) HU64.out
        have CL := refLook_any k A A' nw c n c' wd F v wr (HA1.out.next hb) (HT1.out.next hb) HV.out HU64.out
        obtain ⟨R, hR⟩ : ∃ R, R = shpR k nw wd n F v := ⟨_, rfl⟩
        obtain ⟨D, hD⟩ : ∃ D, D = shpD k nw wd n F v := ⟨_, rfl⟩
        obtain ⟨E, hE⟩ : ∃ D, D = shpE k nw wd n F v := ⟨_, rfl⟩
        rw [← hR, ← hD] at hr h1
        rw [← hR, ← hD, ← hE] at CL
        have HB := Lib.hid hb
        have HS1 := Lib.hid hS1
        have w1 : IntKind.i64.wrap (1 + R) = 1 + R := IntWalk.i64_in _ (by omega)
        have w2 : IntKind.i64.wrap (1 + R + D) = 1 + R + D := IntWalk.i64_in _ (by omega)
        have w3 : IntKind.i64.wrap (S0 + (1 + R + D)) = S1 := by rw [IntWalk.i64_in _ (by omega)]; omega
        clear hb hc1 hv hS0 hS1 h1 BS2 hR hD hE
        go_wp2_with fail
        refine CL.mono ?_
        rintro e W1 ⟨rfl, hb1⟩
        have HB1 := Lib.hid (below_next HB.out (Nat.le_refl _) hb1)
        clear hb1 CL p0 p1 p2 pz hc2 hbz
        go_wp2_with fail
        exact ⟨⟨t + 1, by omega, by rw [HS1.out], by go_num, HB1.out⟩, by simp [intOf]; omega⟩
      · obtain rfl : t = l.length := by omega
        have hx : ¬ (l.length : Int) < l.length := by omega
        have HB := Lib.hid hb
        clear hb
        go_wp2
        exact bodyPost_ret (v := .tuple #[.int .i64 l.length, .int .i64 (S l.length), .int .i64 0]) (by simp [results, Try.results15, go_sem]) rfl ⟨by rw [e1.out, e2.out, HSL.out], below_next HB5.out (Nat.le_refl _) HB.out⟩
  · have hy1 : (y != 0) = true := by simpa using hy
    have e1 := Lib.hid (show ln = 0 from HLN.out.trans (if_neg hy))
    have e2 := Lib.hid (show lw = 0 from HLW.out.trans (if_neg hy))
    clear hy
    go_wp2_with fail
    exact bodyPost_ret (v := .tuple #[.int .i64 0, .int .i64 0, .int .i64 y]) (by simp [results, Try.results15, go_sem]) rfl ⟨by rw [e1.out, e2.out], HB5.out⟩
set_option maxHeartbeats 2000000 in
theorem refHolds_of (A A' : Option Addr) (c c' : Nat) (a : Int) (w : World) (hA : Arr w w.heap.size A nw c wd) (hT : Tab w w.heap.size A' n c' F) (hu : U64w nw wd) (h : ObjsX s nw wd n F sq bt fi la wo l y) :
    Calls Try.prog 18 #[.agg #[.int .i64 s, .slice A nw c, .slice A' n c'], .agg #[.int .i64 sq, .int .i64 bt, .int .i64 fi, .int .i64 la, .int .i64 wo], .int .i64 a] w fun e w' => e = .returned (.bool (memB l a)) ∧ Below w.heap.size w w' := by
  obtain ⟨U, hU⟩ : ∃ U, U = (w.alloc (.cells #[.int .i64 s, .slice A nw c, .slice A' n c'] 25)).alloc (.cells #[.int .i64 sq, .int .i64 bt, .int .i64 fi, .int .i64 la, .int .i64 wo] 27) := ⟨_, rfl⟩
  have HBU : Hid (Below w.heap.size w U) := by rw [hU]; exact ((Below.refl _ _).alloc (Nat.le_refl _) _).alloc (by simp) _
  have CO := refObjs_of A A' c c' U (hA.next HBU.out) (hT.next HBU.out) hu h
  have hlen := objsX_small h
  have BS := Lib.hid (show Blk U w.heap.size 25 #[.int .i64 s, .slice A nw c, .slice A' n c'] by rw [hU]; exact (Blk.new _ _ _).alloc _)
  have BI := Lib.hid (show Blk U (w.heap.size + 1) 27 #[.int .i64 sq, .int .i64 bt, .int .i64 fi, .int .i64 la, .int .i64 wo] by rw [hU]; exact Blk.newAt _ _ _ _ (by simp))
  have HU := Lib.hid hU
  obtain ⟨b, hb⟩ : ∃ b, b = memB l a := ⟨_, rfl⟩
  have HM := Lib.hid (show b = true ↔ ∃ j, j < l.length ∧ numF l j = a by rw [hb]; exact memB_iff)
  rw [← hb]
  clear hA hT hU hu h hb
  go_enter Try.func18, Try.ntmps18
  go_wp2_with fail
  rw [← HU.out]
  refine CO.mono ?_
  rintro e U1 ⟨A5, c5, rfl, hn5, hb5⟩
  have HB5 := Lib.hid (below_next HBU.out (Nat.le_refl _) hb5)
  have HN5 := Lib.hid hn5
  clear hb5 CO hn5
  go_wp2_with fail
  go_loopw [10, 19] (fun _ iv wr => ∃ t : Nat, t ≤ l.length ∧ iv = .int .i64 t ∧ (∀ j, j < t → numF l j ≠ a) ∧ wr = U1) (fun _ iv _ => l.length - (intOf iv).toNat)
  case atStart => exact ⟨0, Nat.zero_le _, rfl, fun j hj => absurd hj (Nat.not_lt_zero j), rfl⟩
  case round =>
    obtain ⟨t, ht, rfl, hno, rfl⟩ := hrel
    have HN := Lib.hid hno
    clear hno
    by_cases hlt : t < l.length
    · obtain ⟨bb, o, rfl, hbb, hc1⟩ := HN5.out.at_ t hlt
      have hx : 0 ≤ (t : Int) ∧ (t : Int) < l.length := by omega
      obtain ⟨v, hv⟩ : ∃ y, y = numF l t := ⟨_, rfl⟩
      rw [← hv] at hc1
      by_cases e : v = a
      · have hq : (v == a) = true := by simpa using e
        have HF := Lib.hid (show numF l t = a by rw [← hv, e])
        clear hv e
        go_wp2
        go_ret
        exact ⟨ret_bool (HM.out.2 ⟨t, hlt, HF.out⟩).symm, HB5.out⟩
      · have hq : (v == a) = false := by simpa using e
        have HF := Lib.hid (show numF l t ≠ a by rw [← hv]; exact e)
        clear hv e
        go_wp2
        refine ⟨⟨t + 1, by omega, by go_num, fun j hj => ?_, trivial⟩, by simp [intOf]; omega⟩
        rcases (show j < t ∨ j = t by omega) with h1 | rfl
        · exact HN.out j h1
        · exact HF.out
    · have hx : ¬ (t : Int) < l.length := by omega
      have hbf : b = false := by
        cases hbb : b
        · rfl
        · obtain ⟨j, h1, h2⟩ := HM.out.1 hbb
          exact absurd h2 (HN.out j (by omega))
      subst hbf
      go_wp2
      go_ret
      exact ⟨rfl, HB5.out⟩
end
end Go.Proofs.Ythcfcciemjkilaa
