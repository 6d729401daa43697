/-
  The reference's Print.
-/
import Derived.Test.YtnoeefbipdpeaaaNCfg
import Derived.Test.YtnoeefbipdpeaaaNDig
import Derived.Test.YtnoeefbipdpeaaaCRef
import Derived.Deep.RegionHeld3
import Derived.Deep.RegionWith
import Derived.RegionTactic
import Derived.BigQuiet
namespace Go.Proofs.Ytnoeefbipdpeaaa
open Go.RowKit
set_option maxRecDepth 100000
set_option linter.unusedVariables false

theorem prR_snoc : ∀ {R : List Rl} {P : List Pr} {r : Rl} {p : Nat}, prR R = some P → pctOf r.s = some p → prR (R ++ [r]) = some (P ++ [⟨p, r.l.toNat, r.b.toNat, r.t.toNat⟩])
  | [], P, r, p, h, hp => by
    injection h with h
    subst h
    rw [List.nil_append, List.nil_append]
    unfold prR
    rw [hp, Option.bind_some]
    rfl
  | x :: R, P, r, p, h, hp => by
    unfold prR at h
    rw [Option.bind_eq_some_iff] at h
    obtain ⟨q, h1, h⟩ := h
    rw [Option.bind_eq_some_iff] at h
    obtain ⟨T, h2, h⟩ := h
    injection h with h
    subst h
    have ih := prR_snoc h2 hp
    rw [List.cons_append, List.cons_append]
    unfold prR
    rw [h1, Option.bind_some, ih, Option.bind_some]
theorem prR_none : ∀ {R : List Rl} {r : Rl}, r ∈ R → pctOf r.s = none → prR R = none
  | [], r, h, _ => by simp at h
  | x :: R, r, h, hp => by
    unfold prR
    simp at h
    rcases h with rfl | h
    · rw [hp]
      rfl
    · rw [prR_none h hp]
      cases pctOf x.s <;> rfl
theorem rlsL_snoc : ∀ (P : List Pr) (x : Pr), rlsL (P ++ [x]) = if P = [] then rulL x else rlsL P ++ (tCo ++ rulL x)
  | [], x => rfl
  | [y], x => rfl
  | y :: z :: P, x => by
    have ih := rlsL_snoc (z :: P) x
    have e : rlsL (y :: z :: P ++ [x]) = rulL y ++ (tCo ++ rlsL (z :: P ++ [x])) := rfl
    rw [e, ih, if_neg (by simp), if_neg (by simp)]
    have e2 : rlsL (y :: z :: P) = rulL y ++ (tCo ++ rlsL (z :: P)) := rfl
    rw [e2]
    simp only [List.append_assoc]
theorem textL_first (nm : List Nat) (f : Nat) (x : Pr) : textL nm f ([] ++ [x]) = textL nm f [] ++ rulL x := by
  unfold textL
  rw [rlsL_snoc, if_pos rfl]
  simp [rlsL]
theorem textL_next (nm : List Nat) (f : Nat) {P : List Pr} (h : P ≠ []) (x : Pr) : textL nm f (P ++ [x]) = (textL nm f P ++ tCo) ++ rulL x := by
  unfold textL
  rw [rlsL_snoc, if_neg h]
  simp only [List.append_assoc]
theorem tFull_lit : ({ data := #[32, 102, 117, 108, 108, 32] } : ByteArray) = tx tFull := by decide
theorem tCol_lit : ({ data := #[58, 32] } : ByteArray) = tx tCol := by decide
theorem tCo_lit : ({ data := #[44, 32] } : ByteArray) = tx tCo := by decide
theorem tAll_lit : ({ data := #[97, 108, 108] } : ByteArray) = tx tAll := by decide
theorem tPct_lit : ({ data := #[37] } : ByteArray) = tx tPct := by decide
theorem tSl_lit : ({ data := #[47] } : ByteArray) = tx tSl := by decide
theorem tGt_lit : ({ data := #[62] } : ByteArray) = tx tGt := by decide
theorem tNil_lit : ({ data := #[] } : ByteArray) = tx [] := by decide

/-- What Print leaves. -/
def PrtOf (s : ByteArray) (R : List Rl) (f : Int) (w : World) (e : Ending) (w' : World) : Prop := e = .returned (.tuple #[.string (tx (prtL s R f)), .int .i64 (prtE s R f)]) ∧ Below w.heap.size w w'
set_option maxHeartbeats 8000000 in
theorem refPrint_any (s : ByteArray) (A : Option Addr) (c : Nat) (R : List Rl) (f : Int) (w : World) (hR : RArr w (Lt w.heap.size) A c R) (hW : WfR R) (hs : s.size ≤ 9223372036854775807) :
    Calls Try.prog 13 #[.agg #[.string s, .slice A R.length c, .int .i64 f]] w (PrtOf s R f w) := by
  obtain ⟨TL, hTL⟩ : ∃ x, x = prtL s R f := ⟨_, rfl⟩
  obtain ⟨TE, hTE⟩ : ∃ x, x = prtE s R f := ⟨_, rfl⟩
  unfold PrtOf
  rw [← hTL, ← hTE]
  obtain ⟨U, hU⟩ : ∃ U, U = w.alloc (.cells #[.string s, .slice A R.length c, .int .i64 f] 28) := ⟨_, rfl⟩
  have BS0 : Blk U w.heap.size 28 #[.string s, .slice A R.length c, .int .i64 f] := by rw [hU]; exact Blk.new _ _ _
  have HBU : Hid (Below w.heap.size w U) := by rw [hU]; exact Lib.hid ((Below.refl _ _).alloc (Nat.le_refl _) _)
  have HU := Lib.hid hU
  have HR := Lib.hid (hR.next HBU.out)
  have HW := Lib.hid hW
  have zU : w.heap.size < U.heap.size := BS0.lt
  have hc := refCheck_any s A c R f U HR.out hW hs
  have hm := hR.2.1
  have hm' := hR.1
  simp only [maxLen] at hm
  clear hR hU hW
  by_cases hk : chk s R f = 0
  · rw [hk] at hc
    have hbd := rule_bounds hk
    obtain ⟨fb0, fb1⟩ := full_bounds hk
    obtain ⟨fn, rfl⟩ := Int.eq_ofNat_of_zero_le fb0
    have hn4 : R.length ≤ 4 := (chk_ok hk).2.2.1
    have hn1 : 1 ≤ R.length := (chk_ok hk).2.1
    obtain ⟨nm, hnm⟩ : ∃ nm, nm = txL s := ⟨_, rfl⟩
    have hnb : Byt nm := by rw [hnm]; exact byt_txL s
    have hsn : s = tx nm := by rw [hnm, tx_txL]
    have hnl : nm.length ≤ 16 := by rw [hnm]; exact (nmOk_of (chk_ok hk).1).1.2.1
    have HYES := Lib.hid (fun (P : List Pr) (h : prR R = some P) => show TL = textL nm fn P ∧ TE = 0 by
      rw [hTL, hTE]
      unfold prtL prtE
      rw [if_pos hk, if_pos hk, h, ← hnm]
      exact ⟨by show textL nm ((fn : Int)).toNat P = _; rw [Int.toNat_natCast], rfl⟩)
    have HNO := Lib.hid (fun (h : prR R = none) => show TL = [] ∧ TE = 6 by
      rw [hTL, hTE]
      unfold prtL prtE
      rw [if_pos hk, if_pos hk, h]
      exact ⟨rfl, rfl⟩)
    have HBD := Lib.hid hbd
    clear hTL hTE hk hbd hnm fb0
    subst hsn
    have BS := Lib.hid BS0
    clear BS0
    have lF := tFull_lit
    have lC := tCol_lit
    have lO := tCo_lit
    have lA := tAll_lit
    have lP := tPct_lit
    have lS := tSl_lit
    have lG := tGt_lit
    have lN := tNil_lit
    have sz := tx_size
    have ap := tx_append
    have hd4 : (decL fn).length ≤ 4 := dec_len (by omega)
    have yF : tFull.length = 6 := rfl
    have yC : tCol.length = 2 := rfl
    have yO : tCo.length = 2 := rfl
    have yA : tAll.length = 3 := rfl
    have yP : tPct.length = 1 := rfl
    have yS : tSl.length = 1 := rfl
    have yG : tGt.length = 1 := rfl
    have c1 : ¬ 9223372036854775807 < nm.length + 6 := by omega
    have c2 : ¬ 9223372036854775807 < nm.length + 6 + (decL fn).length := by omega
    have c3 : ¬ 9223372036854775807 < nm.length + (6 + (decL fn).length) + 2 := by omega
    go_enter Try.func13, Try.ntmps13
    go_wp2_with fail
    rw [← HU.out]
    refine hc.mono ?_
    rintro e W1 ⟨rfl, hb1⟩
    have HB1 := Lib.hid hb1
    have BS1 := BS.out.next hb1
    have p0 := BS1.cell 0
    have p1 := BS1.cell 1
    have p2 := BS1.cell 2
    simp at p0 p1 p2
    have zw : w.heap.size < W1.heap.size := BS1.lt
    have BSW := Lib.hid BS1
    clear hc hb1 BS1
    go_upto_region 4 with fail
    have zw : w.heap.size < W1.drew.heap.size := zw
    refine wp_region_held_drew (S := (fun w' => w'.cell? ⟨w.heap.size, 0, none⟩ = some (.string (tx nm)) ∧ w'.cell? ⟨w.heap.size, 2, none⟩ = some (.int .i64 (fn : Int)))) (by kernel_rfl) ?_ (fun hHeld => ?_)
    · exact ⟨p0, p2⟩
    (refine wpAnyH_take (i := 0) (v := ?_) rfl (by kernel_rfl) (by kernel_rfl) (by kernel_rfl) (fun _ _ _ h => h) (Or.inl ⟨by rfl, ?_⟩) (by assumption) ?_; rotate_left 1; (focus (intro w' hSw; (try dsimp only at hSw); go_simp; (try with_reducible rfl); done)); try simp only [Act.put, List.setIfInBounds_toArray, List.set_cons_zero, List.set_cons_succ, List.getElem_toArray, List.getElem_cons_zero])
    (refine wpAnyH_take (i := 1) (v := ?_) rfl (by kernel_rfl) (by kernel_rfl) (by kernel_rfl) (fun _ _ _ h => h) (Or.inl ⟨by rfl, ?_⟩) (by assumption) ?_; rotate_left 1; (focus (intro w' hSw; (try dsimp only at hSw); go_simp; (try with_reducible rfl); done)); try simp only [Act.put, List.setIfInBounds_toArray, List.set_cons_zero, List.set_cons_succ, List.getElem_toArray, List.getElem_cons_zero, List.getElem_cons_succ])
    (refine wpAnyH_take (i := 2) (v := ?_) rfl (by kernel_rfl) (by kernel_rfl) (by kernel_rfl) (fun _ _ _ h => h) (Or.inl ⟨by rfl, ?_⟩) (by assumption) ?_; rotate_left 1; (focus (intro w' hSw; (try dsimp only at hSw); go_simp; (try with_reducible rfl); done)); try simp only [Act.put, List.setIfInBounds_toArray, List.set_cons_zero, List.set_cons_succ, List.getElem_toArray, List.getElem_cons_zero, List.getElem_cons_succ])
    (refine wpAnyH_take (i := 3) (v := ?_) rfl (by kernel_rfl) (by kernel_rfl) (by kernel_rfl) (fun _ _ _ h => h) (Or.inl ⟨by rfl, ?_⟩) (by assumption) ?_; rotate_left 1; (focus (intro w' hSw; (try dsimp only at hSw); go_simp; (try with_reducible rfl); done)); try simp only [Act.put, List.setIfInBounds_toArray, List.set_cons_zero, List.set_cons_succ, List.getElem_toArray, List.getElem_cons_zero, List.getElem_cons_succ])
    (refine wpAnyH_take (i := 4) (v := ?_) rfl (by kernel_rfl) (by kernel_rfl) (by kernel_rfl) (fun _ _ _ h => h) (Or.inl ⟨by rfl, ?_⟩) (by assumption) ?_; rotate_left 1; (focus (intro w' hSw; (try dsimp only at hSw); go_simp; (try with_reducible rfl); done)); try simp only [Act.put, List.setIfInBounds_toArray, List.set_cons_zero, List.set_cons_succ, List.getElem_toArray, List.getElem_cons_zero, List.getElem_cons_succ])
    refine wpAnyH_ready (rs := [5]) (by kernel_rfl) (by simp) ?_
    refine AllReadyH.cons rfl (fun K hK => ?_) AllReadyH.nil
    go_simp
    go_at_call 21
    refine (digits_any _ fn _ (Nat.le_refl _) (by omega)).mono ?_
    rintro e N1 ⟨rfl, bN1⟩
    have zw : w.heap.size < W1.drew.heap.size := zw
    go_wp2_with fail
    refine hK.out _ _ ⟨(bN1.cell (p := ⟨_, 0, none⟩) zw).trans hHeld.1, (bN1.cell (p := ⟨_, 2, none⟩) zw).trans hHeld.2⟩ (fun hHeld2 => ?_)
    clear hK K hHeld
    have hHeld := hHeld2
    clear hHeld2
    try simp only [Act.put, List.setIfInBounds_toArray, List.set_cons_zero, List.set_cons_succ, List.getElem_toArray, List.getElem_cons_zero, List.getElem_cons_succ]
    have zw : w.heap.size < N1.heap.size := Nat.lt_of_lt_of_le zw bN1.size
    (refine wpAnyH_take (i := 6) (v := ?_) rfl (by kernel_rfl) (by kernel_rfl) (by kernel_rfl) (fun _ _ _ h => h) (Or.inl ⟨by rfl, ?_⟩) (by assumption) ?_; rotate_left 1; (focus (intro w' hSw; (try dsimp only at hSw); go_simp; (try with_reducible rfl); done)); try simp only [Act.put, List.setIfInBounds_toArray, List.set_cons_zero, List.set_cons_succ, List.getElem_toArray, List.getElem_cons_zero, List.getElem_cons_succ])
    (refine wpAnyH_take (i := 7) (v := ?_) rfl (by kernel_rfl) (by kernel_rfl) (by kernel_rfl) (fun _ _ _ h => h) (Or.inl ⟨by rfl, ?_⟩) (by assumption) ?_; rotate_left 1; (focus (intro w' hSw; (try dsimp only at hSw); go_simp; (try with_reducible rfl); done)); try simp only [Act.put, List.setIfInBounds_toArray, List.set_cons_zero, List.set_cons_succ, List.getElem_toArray, List.getElem_cons_zero, List.getElem_cons_succ])
    (refine wpAnyH_take (i := 8) (v := ?_) rfl (by kernel_rfl) (by kernel_rfl) (by kernel_rfl) (fun _ _ _ h => h) (Or.inl ⟨by rfl, ?_⟩) (by assumption) ?_; rotate_left 1; (focus (intro w' hSw; (try dsimp only at hSw); go_simp; (try with_reducible rfl); done)); try simp only [Act.put, List.setIfInBounds_toArray, List.set_cons_zero, List.set_cons_succ, List.getElem_toArray, List.getElem_cons_zero, List.getElem_cons_succ])
    refine wpAnyH_done (by kernel_rfl) ?_ _
    clear hHeld
    have hN1 : Below W1.heap.size W1 N1 := (Below.refl _ _).drew.trans (show Below W1.heap.size W1.drew N1 from bN1)
    have HBW := Lib.hid (below_step HB1.out HB1.out.size hN1)
    have BSN := Lib.hid (BSW.out.next hN1)
    have HT0 : tx (nm ++ (tFull ++ (decL fn ++ tCol))) = tx (textL nm fn []) := by unfold textL; simp [rlsL]
    have bN1' := bN1
    clear bN1 hN1 p0 p1 p2 c1 c2 c3
    have p0 := BSN.out.cell 0
    have p1 := BSN.out.cell 1
    have p2 := BSN.out.cell 2
    simp at p0 p1 p2
    go_wp2_with fail
    rw [HT0]
    have z1 : w.heap.size < N1.heap.size := BSN.out.lt
    have HRN := Lib.hid ((HR.out.next HB1.out).next ((Below.refl W1.heap.size W1).drew.trans (show Below W1.heap.size W1.drew N1 from bN1')))
    clear HT0 p0 p1 p2 bN1'
    go_loopw [26, 5] (fun i sv wr => ∃ P : List Pr, P.length ≤ R.length ∧ i = .int .i64 P.length ∧ prR (R.take P.length) = some P ∧ (∀ x ∈ P, PrOk x) ∧ sv = .string (tx (textL nm fn P)) ∧ Below N1.heap.size N1 wr) (fun i _ _ => R.length - (intOf i).toNat)
    case atStart => exact ⟨[], Nat.zero_le _, rfl, rfl, fun x hx => by simp at hx, rfl, Below.refl _ _⟩
    case round =>
      obtain ⟨P, hPl, rfl, hP, hok, rfl, hb⟩ := hrel
      have HP := Lib.hid hP
      have HOK := Lib.hid hok
      have HB := Lib.hid hb
      have htl : (textL nm fn P).length ≤ 116 := by
        have a := rls_len P hok
        unfold textL
        simp only [List.length_append, yF, yC]
        omega
      clear hP hok hb
      by_cases hlt : P.length < R.length
      · have hlt2 : 0 ≤ (P.length : Int) ∧ (P.length : Int) < R.length := by omega
        obtain ⟨r, hr⟩ := gt_of hlt
        obtain ⟨g, o, rfl, _, hbz, k0, k1, k2, k3⟩ := (HRN.out.next HB.out).at_ hr
        have hrm : r ∈ R := List.mem_iff_getElem?.2 ⟨_, hr⟩
        obtain ⟨b1, b2, b3, b4, b5, b6⟩ := HBD.out r hrm
        have HRM := Lib.hid hrm
        have HRR := Lib.hid hr
        obtain ⟨xl, hxl⟩ := Int.eq_ofNat_of_zero_le b1
        obtain ⟨xb, hxb⟩ := Int.eq_ofNat_of_zero_le b3
        obtain ⟨xt, hxt⟩ := Int.eq_ofNat_of_zero_le b5
        rw [hxl] at k1 b2
        rw [hxb] at k2 b4
        rw [hxt] at k3 b6
        have hpc := fun W => Sh.refToPercent_any r.s W
        have HX := Lib.hid (show r.l.toNat = xl ∧ r.b.toNat = xb ∧ r.t.toNat = xt by rw [hxl, hxb, hxt]; exact ⟨rfl, rfl, rfl⟩)
        have hst := stF
        obtain ⟨xs, hxs⟩ : ∃ x, x = r.s := ⟨_, rfl⟩
        rw [← hxs] at k0 hpc
        have HXS := Lib.hid hxs
        have HB3 : Hid (Below wr.heap.size wr (wr.alloc (.cells #[.float .f64 xs, .int .i64 xl, .int .i64 xb, .int .i64 xt] 41))) := Lib.hid ((Below.refl _ _).alloc (Nat.le_refl _) _)
        have BR3 : Hid (Blk (wr.alloc (.cells #[.float .f64 xs, .int .i64 xl, .int .i64 xb, .int .i64 xt] 41)) wr.heap.size 41 #[.float .f64 xs, .int .i64 xl, .int .i64 xb, .int .i64 xt]) := Lib.hid (Blk.new _ _ _)
        obtain ⟨W3, hW3⟩ : ∃ W, W = wr.alloc (.cells #[.float .f64 xs, .int .i64 xl, .int .i64 xb, .int .i64 xt] 41) := ⟨_, rfl⟩
        rw [← hW3] at HB3 BR3
        have HW3 := Lib.hid hW3
        obtain ⟨rb, hrb⟩ : ∃ b, b = wr.heap.size := ⟨_, rfl⟩
        rw [← hrb] at BR3
        have HRB := Lib.hid hrb
        clear b1 b3 b5 hr hrm hxs hxl hxb hxt hW3 hrb
        go_wp2_with fail
        rw [← HW3.out, ← HRB.out]
        refine (hpc _).mono ?_
        rintro e w' ⟨pv, ok, rfl, rfl, hpct⟩
        clear hpc
        rcases hpct with ⟨rfl, p, rfl, hp1, hp2, _⟩ | ⟨rfl, rfl, hp2⟩
        · have hpo : pctOf r.s = some p := by rw [← HXS.out, ← hp2]; exact pctOf_mk hp1
          have hsn := prR_snoc HP.out hpo
          obtain ⟨x1, x2, x3⟩ := HX.out
          rw [x1, x2, x3] at hsn
          have htk : R.take (P.length + 1) = R.take P.length ++ [r] := by rw [List.take_add_one, HRR.out]; rfl
          rw [← htk] at hsn
          have HSN := Lib.hid hsn
          obtain ⟨T1, hT1⟩ : ∃ T, T = if P = [] then textL nm fn P else textL nm fn P ++ tCo := ⟨_, rfl⟩
          have htx : textL nm fn (P ++ [⟨p, xl, xb, xt⟩]) = T1 ++ rulL ⟨p, xl, xb, xt⟩ := by
            rw [hT1]
            split
            · rename_i h
              subst h
              exact textL_first nm fn _
            · rename_i h
              exact textL_next nm fn h _
          have HTX := Lib.hid htx
          have hl1 : T1.length ≤ 118 := by
            rw [hT1]
            split
            · omega
            · rw [List.length_append, yO]; omega
          have HT1 := Lib.hid hT1
          have HP1 := Lib.hid hp1
          clear hpo hsn x1 x2 x3 htk htx hT1 hp2
          go_upto_if 40 with fail
          go_cut [5] (fun sv wx => sv = .string (tx T1) ∧ wx = W3)
          case first =>
            by_cases h0 : P = []
            · have e1 : T1 = textL nm fn P := by rw [HT1.out, if_pos h0]
              have e2 : ¬ (0 : Int) < P.length := by rw [h0]; decide
              subst e1
              clear h0
              go_wp2
              go_meet
              exact ⟨rfl, rfl⟩
            · have e1 : T1 = textL nm fn P ++ tCo := by rw [HT1.out, if_neg h0]
              have e2 : (0 : Int) < P.length := by have := List.length_pos_iff.2 h0; omega
              have e3 : ¬ 9223372036854775807 < (textL nm fn P).length + 2 := by omega
              have E1 := Lib.hid e1
              clear h0 e1
              go_wp2
              go_meet
              exact ⟨by rw [E1.out], rfl⟩
          case rest =>
            obtain ⟨rfl, hwc⟩ := hcut
            rw [hwc]
            clear hwc
            go_upto_if 44 with fail
            go_cut [5] (fun sv wx => sv = .string (tx (T1 ++ shL p)) ∧ Below W3.heap.size W3 wx)
            case first =>
              by_cases h0 : p = 0
              · have e1 : shL p = tAll := by unfold shL; rw [if_pos h0]
                have e2 : ((p : Int) == 0) = true := by rw [h0]; rfl
                have e3 : ¬ 9223372036854775807 < T1.length + 3 := by omega
                have E1 := Lib.hid e1
                clear h0 e1
                go_wp2
                go_meet
                exact ⟨by rw [E1.out], Below.refl _ _⟩
              · have e1 : shL p = decL p ++ tPct := by unfold shL; rw [if_neg h0]
                have e2 : ((p : Int) == 0) = false := by rw [beq_eq_false_iff_ne]; omega
                have e4 : (decL p).length ≤ 4 := dec_len (by have := HP1.out; omega)
                have e3 : ¬ 9223372036854775807 < T1.length + ((decL p).length + 1) := by omega
                have e5 : ¬ 9223372036854775807 < (decL p).length + 1 := by omega
                have dg := fun W => digits_any p p W (Nat.le_refl _) (by have := HP1.out; omega)
                have E1 := Lib.hid e1
                clear h0 e1
                go_wp2_with fail
                refine (dg _).mono ?_
                rintro e W4 ⟨rfl, hb4⟩
                have HB4 := Lib.hid hb4
                clear dg hb4
                go_wp2_with fail
                go_meet
                exact ⟨by rw [E1.out], HB4.out⟩
            case rest =>
              obtain ⟨rfl, hb4⟩ := hcut
              obtain ⟨W4, hW4⟩ : ∃ W, W = wc := ⟨_, rfl⟩
              rw [← hW4] at hb4 ⊢
              have B4 := BR3.out.next hb4
              have d1 := B4.cell 1
              have d2 := B4.cell 2
              have d3 := B4.cell 3
              simp at d1 d2 d3
              have zr : rb < W4.heap.size := B4.lt
              have HB4 := Lib.hid hb4
              have hsl : (shL p).length ≤ 5 := by
                unfold shL
                split
                · rw [yA]; omega
                · have := dec_len (n := p) (by have := HP1.out; omega)
                  rw [List.length_append, yP]; omega
              obtain ⟨T2, hT2⟩ : ∃ T, T = T1 ++ shL p := ⟨_, rfl⟩
              have hl2 : T2.length ≤ 123 := by rw [hT2, List.length_append]; omega
              rw [← hT2]
              have HT2 := Lib.hid hT2
              have j1 := dec_len (n := xl) (by omega)
              have j2 := dec_len (n := xb) (by omega)
              have j3 := dec_len (n := xt) (by omega)
              have o1 : ¬ 9223372036854775807 < 1 + (decL xl).length := by omega
              have o2 : ¬ 9223372036854775807 < 1 + (decL xl).length + 1 := by omega
              have o3 : ¬ 9223372036854775807 < 1 + ((decL xl).length + 1) + (decL xb).length := by omega
              have o4 : ¬ 9223372036854775807 < 1 + ((decL xl).length + (1 + (decL xb).length)) + 1 := by omega
              have o5 : ¬ 9223372036854775807 < 1 + ((decL xl).length + (1 + ((decL xb).length + 1))) + (decL xt).length := by omega
              have o6 : ¬ 9223372036854775807 < T2.length + (1 + ((decL xl).length + (1 + ((decL xb).length + (1 + (decL xt).length))))) := by omega
              clear hb4 B4 hT2 hW4 hsl
              go_upto_region 16 with fail
              have zr : rb < W4.drew.heap.size := zr
              refine wp_region_held_drew (S := (fun w' => w'.cell? ⟨rb, 1, none⟩ = some (.int .i64 (xl : Int)) ∧ w'.cell? ⟨rb, 2, none⟩ = some (.int .i64 (xb : Int)) ∧ w'.cell? ⟨rb, 3, none⟩ = some (.int .i64 (xt : Int)))) (by kernel_rfl) ?_ (fun hHeld => ?_)
              · exact ⟨d1, d2, d3⟩
              (refine wpAnyH_take (i := 0) (v := ?_) rfl (by kernel_rfl) (by kernel_rfl) (by kernel_rfl) (fun _ _ _ h => h) (Or.inl ⟨by rfl, ?_⟩) (by assumption) ?_; rotate_left 1; (focus (intro w' hSw; (try dsimp only at hSw); go_simp; (try with_reducible rfl); done)); try simp only [Act.put, List.setIfInBounds_toArray, List.set_cons_zero, List.set_cons_succ, List.getElem_toArray, List.getElem_cons_zero])
              (refine wpAnyH_take (i := 1) (v := ?_) rfl (by kernel_rfl) (by kernel_rfl) (by kernel_rfl) (fun _ _ _ h => h) (Or.inl ⟨by rfl, ?_⟩) (by assumption) ?_; rotate_left 1; (focus (intro w' hSw; (try dsimp only at hSw); go_simp; (try with_reducible rfl); done)); try simp only [Act.put, List.setIfInBounds_toArray, List.set_cons_zero, List.set_cons_succ, List.getElem_toArray, List.getElem_cons_zero, List.getElem_cons_succ])
              (refine wpAnyH_take (i := 2) (v := ?_) rfl (by kernel_rfl) (by kernel_rfl) (by kernel_rfl) (fun _ _ _ h => h) (Or.inl ⟨by rfl, ?_⟩) (by assumption) ?_; rotate_left 1; (focus (intro w' hSw; (try dsimp only at hSw); go_simp; (try with_reducible rfl); done)); try simp only [Act.put, List.setIfInBounds_toArray, List.set_cons_zero, List.set_cons_succ, List.getElem_toArray, List.getElem_cons_zero, List.getElem_cons_succ])
              (refine wpAnyH_take (i := 6) (v := ?_) rfl (by kernel_rfl) (by kernel_rfl) (by kernel_rfl) (fun _ _ _ h => h) (Or.inl ⟨by rfl, ?_⟩) (by assumption) ?_; rotate_left 1; (focus (intro w' hSw; (try dsimp only at hSw); go_simp; (try with_reducible rfl); done)); try simp only [Act.put, List.setIfInBounds_toArray, List.set_cons_zero, List.set_cons_succ, List.getElem_toArray, List.getElem_cons_zero, List.getElem_cons_succ])
              (refine wpAnyH_take (i := 7) (v := ?_) rfl (by kernel_rfl) (by kernel_rfl) (by kernel_rfl) (fun _ _ _ h => h) (Or.inl ⟨by rfl, ?_⟩) (by assumption) ?_; rotate_left 1; (focus (intro w' hSw; (try dsimp only at hSw); go_simp; (try with_reducible rfl); done)); try simp only [Act.put, List.setIfInBounds_toArray, List.set_cons_zero, List.set_cons_succ, List.getElem_toArray, List.getElem_cons_zero, List.getElem_cons_succ])
              (refine wpAnyH_take (i := 11) (v := ?_) rfl (by kernel_rfl) (by kernel_rfl) (by kernel_rfl) (fun _ _ _ h => h) (Or.inl ⟨by rfl, ?_⟩) (by assumption) ?_; rotate_left 1; (focus (intro w' hSw; (try dsimp only at hSw); go_simp; (try with_reducible rfl); done)); try simp only [Act.put, List.setIfInBounds_toArray, List.set_cons_zero, List.set_cons_succ, List.getElem_toArray, List.getElem_cons_zero, List.getElem_cons_succ])
              (refine wpAnyH_take (i := 12) (v := ?_) rfl (by kernel_rfl) (by kernel_rfl) (by kernel_rfl) (fun _ _ _ h => h) (Or.inl ⟨by rfl, ?_⟩) (by assumption) ?_; rotate_left 1; (focus (intro w' hSw; (try dsimp only at hSw); go_simp; (try with_reducible rfl); done)); try simp only [Act.put, List.setIfInBounds_toArray, List.set_cons_zero, List.set_cons_succ, List.getElem_toArray, List.getElem_cons_zero, List.getElem_cons_succ])
              refine wpAnyH_ready (rs := [3]) (by kernel_rfl) (by simp) ?_
              refine AllReadyH.cons rfl (fun K hK => ?_) AllReadyH.nil
              go_simp
              go_at_call 21
              refine (digits_any _ xl _ (Nat.le_refl _) (by omega)).mono ?_
              rintro e N1 ⟨rfl, bN1⟩
              have zr : rb < W4.drew.heap.size := zr
              go_wp2_with fail
              refine hK.out _ _ ⟨(bN1.cell (p := ⟨_, 1, none⟩) zr).trans hHeld.1, (bN1.cell (p := ⟨_, 2, none⟩) zr).trans hHeld.2.1, (bN1.cell (p := ⟨_, 3, none⟩) zr).trans hHeld.2.2⟩ (fun hHeld2 => ?_)
              clear hK K hHeld
              have hHeld := hHeld2
              clear hHeld2
              try simp only [Act.put, List.setIfInBounds_toArray, List.set_cons_zero, List.set_cons_succ, List.getElem_toArray, List.getElem_cons_zero, List.getElem_cons_succ]
              have zr : rb < N1.heap.size := Nat.lt_of_lt_of_le zr bN1.size
              (refine wpAnyH_take (i := 4) (v := ?_) rfl (by kernel_rfl) (by kernel_rfl) (by kernel_rfl) (fun _ _ _ h => h) (Or.inl ⟨by rfl, ?_⟩) (by assumption) ?_; rotate_left 1; (focus (intro w' hSw; (try dsimp only at hSw); go_simp; (try with_reducible rfl); done)); try simp only [Act.put, List.setIfInBounds_toArray, List.set_cons_zero, List.set_cons_succ, List.getElem_toArray, List.getElem_cons_zero, List.getElem_cons_succ])
              (refine wpAnyH_take (i := 5) (v := ?_) rfl (by kernel_rfl) (by kernel_rfl) (by kernel_rfl) (fun _ _ _ h => h) (Or.inl ⟨by rfl, ?_⟩) (by assumption) ?_; rotate_left 1; (focus (intro w' hSw; (try dsimp only at hSw); go_simp; (try with_reducible rfl); done)); try simp only [Act.put, List.setIfInBounds_toArray, List.set_cons_zero, List.set_cons_succ, List.getElem_toArray, List.getElem_cons_zero, List.getElem_cons_succ])
              refine wpAnyH_ready (rs := [8]) (by kernel_rfl) (by simp) ?_
              refine AllReadyH.cons rfl (fun K hK => ?_) AllReadyH.nil
              go_simp
              go_at_call 21
              refine (digits_any _ xb _ (Nat.le_refl _) (by omega)).mono ?_
              rintro e N2 ⟨rfl, bN2⟩
              have zr : rb < N1.heap.size := zr
              go_wp2_with fail
              refine hK.out _ _ ⟨(bN2.cell (p := ⟨_, 1, none⟩) zr).trans hHeld.1, (bN2.cell (p := ⟨_, 2, none⟩) zr).trans hHeld.2.1, (bN2.cell (p := ⟨_, 3, none⟩) zr).trans hHeld.2.2⟩ (fun hHeld2 => ?_)
              clear hK K hHeld
              have hHeld := hHeld2
              clear hHeld2
              try simp only [Act.put, List.setIfInBounds_toArray, List.set_cons_zero, List.set_cons_succ, List.getElem_toArray, List.getElem_cons_zero, List.getElem_cons_succ]
              have zr : rb < N2.heap.size := Nat.lt_of_lt_of_le zr bN2.size
              (refine wpAnyH_take (i := 9) (v := ?_) rfl (by kernel_rfl) (by kernel_rfl) (by kernel_rfl) (fun _ _ _ h => h) (Or.inl ⟨by rfl, ?_⟩) (by assumption) ?_; rotate_left 1; (focus (intro w' hSw; (try dsimp only at hSw); go_simp; (try with_reducible rfl); done)); try simp only [Act.put, List.setIfInBounds_toArray, List.set_cons_zero, List.set_cons_succ, List.getElem_toArray, List.getElem_cons_zero, List.getElem_cons_succ])
              (refine wpAnyH_take (i := 10) (v := ?_) rfl (by kernel_rfl) (by kernel_rfl) (by kernel_rfl) (fun _ _ _ h => h) (Or.inl ⟨by rfl, ?_⟩) (by assumption) ?_; rotate_left 1; (focus (intro w' hSw; (try dsimp only at hSw); go_simp; (try with_reducible rfl); done)); try simp only [Act.put, List.setIfInBounds_toArray, List.set_cons_zero, List.set_cons_succ, List.getElem_toArray, List.getElem_cons_zero, List.getElem_cons_succ])
              refine wpAnyH_ready (rs := [13]) (by kernel_rfl) (by simp) ?_
              refine AllReadyH.cons rfl (fun K hK => ?_) AllReadyH.nil
              go_simp
              go_at_call 21
              refine (digits_any _ xt _ (Nat.le_refl _) (by omega)).mono ?_
              rintro e N3 ⟨rfl, bN3⟩
              have zr : rb < N2.heap.size := zr
              go_wp2_with fail
              refine hK.out _ _ ⟨(bN3.cell (p := ⟨_, 1, none⟩) zr).trans hHeld.1, (bN3.cell (p := ⟨_, 2, none⟩) zr).trans hHeld.2.1, (bN3.cell (p := ⟨_, 3, none⟩) zr).trans hHeld.2.2⟩ (fun hHeld2 => ?_)
              clear hK K hHeld
              have hHeld := hHeld2
              clear hHeld2
              try simp only [Act.put, List.setIfInBounds_toArray, List.set_cons_zero, List.set_cons_succ, List.getElem_toArray, List.getElem_cons_zero, List.getElem_cons_succ]
              have zr : rb < N3.heap.size := Nat.lt_of_lt_of_le zr bN3.size
              (refine wpAnyH_take (i := 14) (v := ?_) rfl (by kernel_rfl) (by kernel_rfl) (by kernel_rfl) (fun _ _ _ h => h) (Or.inl ⟨by rfl, ?_⟩) (by assumption) ?_; rotate_left 1; (focus (intro w' hSw; (try dsimp only at hSw); go_simp; (try with_reducible rfl); done)); try simp only [Act.put, List.setIfInBounds_toArray, List.set_cons_zero, List.set_cons_succ, List.getElem_toArray, List.getElem_cons_zero, List.getElem_cons_succ])
              (refine wpAnyH_take (i := 15) (v := ?_) rfl (by kernel_rfl) (by kernel_rfl) (by kernel_rfl) (fun _ _ _ h => h) (Or.inl ⟨by rfl, ?_⟩) (by assumption) ?_; rotate_left 1; (focus (intro w' hSw; (try dsimp only at hSw); go_simp; (try with_reducible rfl); done)); try simp only [Act.put, List.setIfInBounds_toArray, List.set_cons_zero, List.set_cons_succ, List.getElem_toArray, List.getElem_cons_zero, List.getElem_cons_succ])
              (refine wpAnyH_take (i := 16) (v := ?_) rfl (by kernel_rfl) (by kernel_rfl) (by kernel_rfl) (fun _ _ _ h => h) (Or.inl ⟨by rfl, ?_⟩) (by assumption) ?_; rotate_left 1; (focus (intro w' hSw; (try dsimp only at hSw); go_simp; (try with_reducible rfl); done)); try simp only [Act.put, List.setIfInBounds_toArray, List.set_cons_zero, List.set_cons_succ, List.getElem_toArray, List.getElem_cons_zero, List.getElem_cons_succ])
              refine wpAnyH_done (by kernel_rfl) ?_ _
              clear hHeld
              have hN3 : Below W4.heap.size W4 N3 := below_step (below_step ((Below.refl _ _).drew.trans (show Below W4.heap.size W4.drew N1 from bN1)) (by have := bN1.size; exact this) bN2) (by have := bN1.size; have := bN2.size; exact Nat.le_trans bN1.size bN2.size) bN3
              have hfin : tx (T2 ++ (tSl ++ (decL xl ++ (tSl ++ (decL xb ++ (tGt ++ decL xt)))))) = tx (textL nm fn (P ++ [⟨p, xl, xb, xt⟩])) := by
                rw [HTX.out, HT2.out]
                unfold rulL
                simp only [List.append_assoc]
              have HFIN := Lib.hid hfin
              have hall := below_step (below_step (below_step HB.out HB.out.size HB3.out) (Nat.le_trans HB.out.size HB3.out.size) HB4.out) (Nat.le_trans (Nat.le_trans HB.out.size HB3.out.size) HB4.out.size) hN3
              have HALL := Lib.hid hall
              have HPO : Hid (∀ x ∈ P ++ [(⟨p, xl, xb, xt⟩ : Pr)], PrOk x) := Lib.hid fun x hx => by
                rcases List.mem_append.1 hx with h | h
                · exact HOK.out x h
                · simp at h
                  subst h
                  exact ⟨HP1.out, (show xl ≤ 9999 by omega), (show xb ≤ 9999 by omega), (show xt ≤ 9999 by omega)⟩
              clear bN1 bN2 bN3 hN3 hfin hall o1 o2 o3 o4 o5 o6
              go_wp2_with fail
              refine ⟨⟨P ++ [⟨p, xl, xb, xt⟩], by simp; omega, by simp, by rw [List.length_append]; exact HSN.out, HPO.out, by rw [HFIN.out], HALL.out⟩, by simp [intOf]; omega⟩
        · have hn : pctOf xs = none := by
            rcases e : pctOf xs with _ | q
            · rfl
            · exact absurd (pctOf_some e).2 (hp2 q (pctOf_some e).1)
          obtain ⟨e1, e2⟩ := HNO.out (prR_none HRM.out (by rw [← HXS.out]; exact hn))
          subst e1 e2
          clear hn hp2
          go_wp2
          go_ret2
          refine ⟨?_, below_step HBU.out (Nat.le_of_lt zU) (below_step HBW.out HBW.out.size (below_step HB.out HB.out.size HB3.out))⟩
          show Ending.returned (.tuple #[.string { data := #[] }, .int .i64 6]) = _
          rw [lN]
      · have hlt2 : ¬ (P.length : Int) < R.length := by omega
        have hPn : P.length = R.length := by omega
        have hPR := HP.out
        rw [hPn, List.take_length] at hPR
        obtain ⟨e1, e2⟩ := HYES.out P hPR
        subst e1 e2
        clear hPR hPn
        go_wp2
        go_ret2
        exact ⟨rfl, below_step HBU.out (Nat.le_of_lt zU) (below_step HBW.out HBW.out.size HB.out)⟩
  · have hk2 : (chk s R f != 0) = true := by simpa using hk
    have e1 : TE = chk s R f := by rw [hTE]; unfold prtE; rw [if_neg hk]
    have e2 : TL = [] := by rw [hTL]; unfold prtL; rw [if_neg hk]
    subst e2
    have E1 := Lib.hid e1
    have lN := tNil_lit
    clear hk e1 hTL hTE
    generalize chk s R f = K at *
    go_enter Try.func13, Try.ntmps13
    go_wp2_with fail
    rw [← HU.out]
    refine hc.mono ?_
    rintro e w2 ⟨rfl, hb2⟩
    have HB2 := Lib.hid hb2
    clear hc hb2
    go_wp2
    go_ret2
    refine ⟨?_, below_step HBU.out (Nat.le_of_lt zU) HB2.out⟩
    show Ending.returned (.tuple #[.string { data := #[] }, .int .i64 K]) = _
    rw [E1.out, tNil_lit]
end Go.Proofs.Ytnoeefbipdpeaaa
