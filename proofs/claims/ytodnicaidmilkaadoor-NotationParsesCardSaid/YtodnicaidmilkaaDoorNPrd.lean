/-
  The developers' Print.
-/
import Derived.Test.YtodnicaidmilkaaDoorNShow
import Derived.Test.YtodnicaidmilkaaDoorNPrt
import Derived.Handy
namespace Go.Proofs.YtodnicaidmilkaaDoor
open Go.RowKit
set_option maxRecDepth 100000
set_option linter.unusedVariables false

theorem str_info : (Tryd.prog.info? 9).map (fun i => (i.zero, i.size, i.bytes)) = some (some (.string ⟨#[]⟩), 1, 16) := by kernel_rfl
theorem make_strs (n : Nat) (hn : n ≤ 4) (w : World) :
    (Instr.makeSlice 37 (.int .i64 (n : Int)) (.int .i64 (n : Int))).run Tryd.prog w = .ok (.slice (some ⟨w.heap.size, 0, none⟩) n n) (w.alloc (.cells (madeCells #[.string ⟨#[]⟩] n) 9)) := by
  obtain ⟨i, hi, e⟩ := Option.map_eq_some_iff.1 str_info
  simp only [Prod.mk.injEq] at e
  obtain ⟨e1, e2, e3⟩ := e
  have h := run_make_rowN (P := Tryd.prog) 37 9 i _ Tryd.underlying37 hi e1 .i64 .i64 n n (Nat.le_refl _) (by rw [e3]; omega) (by omega) w
  rw [e2, Nat.mul_one] at h
  exact h
/-- The rows' texts as far as they are written. -/
def SRow (n : Nat) (P : List Pr) (cs : Array Value) : Prop := cs.size = n ∧ (∀ (j : Nat) (r : Pr), P[j]? = some r → cs[j]? = some (.string (tx (rulL r)))) ∧ ∀ j, j < n → ∃ s, cs[j]? = some (.string s)
theorem SRow.made (n : Nat) : SRow n [] (madeCells #[.string ⟨#[]⟩] n) := by
  refine ⟨size_madeCells _ _, fun j r h => by simp at h, fun j hj => ⟨⟨#[]⟩, ?_⟩⟩
  simp [madeCells, hj, Nat.mod_one]
theorem SRow.put {n : Nat} {P : List Pr} {cs : Array Value} (h : SRow n P cs) (hP : P.length < n) (r : Pr) : SRow n (P ++ [r]) (cs.setIfInBounds P.length (.string (tx (rulL r)))) := by
  obtain ⟨h1, h2, h3⟩ := h
  refine ⟨by simp [h1], fun j x hx => ?_, fun j hj => ?_⟩
  · rw [Array.getElem?_setIfInBounds]
    rw [List.getElem?_append] at hx
    split at hx
    · rename_i hl
      rw [if_neg (by omega)]
      exact h2 j x hx
    · rename_i hl
      have e : j = P.length := by
        have := gt_lt hx
        simp at this
        omega
      subst e
      simp at hx
      subst hx
      rw [if_pos rfl, if_pos (by omega)]
  · rw [Array.getElem?_setIfInBounds]
    split
    · rw [if_pos (by omega)]
      exact ⟨_, rfl⟩
    · exact h3 j hj

set_option maxHeartbeats 8000000 in
theorem print_any (s : ByteArray) (A : Option Addr) (c : Nat) (R : List Rl) (f : Int) (w : World) (hR : RArr w (Lt w.heap.size) A c R) (hW : WfR R) (hT : P10 w) :
    Calls Tryd.prog 9 #[.agg #[.string s, .slice A R.length c, .int .i64 f]] w (PrtOf s R f w) := by
  obtain ⟨TL, hTL⟩ : ∃ x, x = prtL s R f := ⟨_, rfl⟩
  obtain ⟨TE, hTE⟩ : ∃ x, x = prtE s R f := ⟨_, rfl⟩
  unfold PrtOf
  rw [← hTL, ← hTE]
  obtain ⟨U, hU⟩ : ∃ U, U = w.alloc (.cells #[.string s, .slice A R.length c, .int .i64 f] 24) := ⟨_, rfl⟩
  have BS0 : Blk U w.heap.size 24 #[.string s, .slice A R.length c, .int .i64 f] := by rw [hU]; exact Blk.new _ _ _
  have HBU : Hid (Below w.heap.size w U) := by rw [hU]; exact Lib.hid ((Below.refl _ _).alloc (Nat.le_refl _) _)
  have HU := Lib.hid hU
  have HR := Lib.hid (hR.next HBU.out)
  have HT := Lib.hid (hT.next HBU.out)
  have HW := Lib.hid hW
  have zU : w.heap.size < U.heap.size := BS0.lt
  have hc := check_any s A c R f U HR.out hW
  have hm := hR.2.1
  have hm' := hR.1
  simp only [maxLen] at hm
  clear hR hU hW hT
  by_cases hk : chk s R f = 0
  · rw [hk] at hc
    have hbd := rule_bounds hk
    obtain ⟨fb0, fb1⟩ := full_bounds hk
    obtain ⟨fn, rfl⟩ := Int.eq_ofNat_of_zero_le fb0
    have hn4 : R.length ≤ 4 := (chk_ok hk).2.2.1
    have hn1 : 1 ≤ R.length := (chk_ok hk).2.1
    have HOK := Lib.hid (fun (j : Nat) (r : Rl) (h : R[j]? = some r) => (ruleE_ok ((chk_ok hk).2.2.2.1 j r h)).1)
    obtain ⟨nm, hnm⟩ : ∃ nm, nm = txL s := ⟨_, rfl⟩
    have hnb : Byt nm := by rw [hnm]; exact byt_txL s
    have hsn : s = tx nm := by rw [hnm, tx_txL]
    have hnl : nm.length ≤ 16 := by rw [hnm]; exact (nmOk_of (chk_ok hk).1).1.2.1
    have HYES := Lib.hid (fun (P : List Pr) (h : prR R = some P) => show TL = textL nm fn P ∧ TE = 0 by
      rw [hTL, hTE]
      unfold prtL prtE
      rw [if_pos hk, if_pos hk, h, ← hnm]
      exact ⟨by show textL nm ((fn : Int)).toNat P = _; rw [Int.toNat_natCast], rfl⟩)
    have HNO := Lib.hid (fun (h : prR R = none) => show TL = [] ∧ TE = 6 by
      rw [hTL, hTE]
      unfold prtL prtE
      rw [if_pos hk, if_pos hk, h]
      exact ⟨rfl, rfl⟩)
    have HBD := Lib.hid hbd
    clear hTL hTE hk hbd hnm fb0
    subst hsn
    have BS := Lib.hid BS0
    clear BS0
    have hmk := fun W => make_strs R.length hn4 W
    have ci : decide ((R.length : Int) < 0) = false := decide_eq_false (by omega)
    go_enter Tryd.func9, Tryd.ntmps9
    go_wp2_with fail
    rw [← HU.out]
    refine hc.mono ?_
    rintro e W1 ⟨rfl, hb1⟩
    have HB1 := Lib.hid hb1
    have BS1 := BS.out.next hb1
    have p0 := BS1.cell 0
    have p1 := BS1.cell 1
    have p2 := BS1.cell 2
    simp at p0 p1 p2
    have zw : w.heap.size < W1.heap.size := BS1.lt
    have BSW := Lib.hid BS1
    have HR1 := Lib.hid (HR.out.next hb1)
    have HT1 := Lib.hid (HT.out.next hb1)
    obtain ⟨W2, hW2⟩ : ∃ W, W = W1.alloc (.cells (madeCells #[.string ⟨#[]⟩] R.length) 9) := ⟨_, rfl⟩
    obtain ⟨rb, hrb⟩ : ∃ b, b = W1.heap.size := ⟨_, rfl⟩
    have BR2 := Lib.hid (show Blk W2 rb 9 (madeCells #[.string ⟨#[]⟩] R.length) by rw [hW2, hrb]; exact Blk.new _ _ _)
    have HB2 : Hid (Below rb W1 W2) := by rw [hW2, hrb]; exact Lib.hid ((Below.refl _ _).alloc (Nat.le_refl _) _)
    have HW2 := Lib.hid hW2
    have HRB := Lib.hid hrb
    clear hc hb1 BS1 hW2 hrb
    go_wp2_with fail
    rw [← HW2.out, ← HRB.out]
    go_loopw [22] (fun i wr => ∃ P : List Pr, P.length ≤ R.length ∧ i = .int .i64 P.length ∧ prR (R.take P.length) = some P ∧ (∀ x ∈ P, PrOk x) ∧ Below rb W1 wr ∧ ∃ cs, Blk wr rb 9 cs ∧ SRow R.length P cs) (fun i _ => R.length - (intOf i).toNat)
    case atStart => exact ⟨[], Nat.zero_le _, rfl, rfl, fun x hx => by simp at hx, HB2.out, _, BR2.out, SRow.made _⟩
    case round =>
      obtain ⟨P, hPl, rfl, hP, hok, hb, cs, hbc, hsr⟩ := hrel
      have HP := Lib.hid hP
      have HOKP := Lib.hid hok
      have HBr : Hid (Below W1.heap.size W1 wr) := by rw [← HRB.out]; exact Lib.hid hb
      have HBC := Lib.hid hbc
      have HSR := Lib.hid hsr
      clear hP hok hb hbc hsr
      by_cases hlt : P.length < R.length
      · have hlt2 : 0 ≤ (P.length : Int) ∧ (P.length : Int) < R.length := by omega
        obtain ⟨r, hr⟩ := gt_of hlt
        obtain ⟨g, o, rfl, _, hbz, k0, k1, k2, k3⟩ := (HR1.out.next HBr.out).at_ hr
        have hrm : r ∈ R := List.mem_iff_getElem?.2 ⟨_, hr⟩
        obtain ⟨b1, b2, b3, b4, b5, b6⟩ := HBD.out r hrm
        have HRM := Lib.hid hrm
        have HRR := Lib.hid hr
        obtain ⟨xl, hxl⟩ := Int.eq_ofNat_of_zero_le b1
        obtain ⟨xb, hxb⟩ := Int.eq_ofNat_of_zero_le b3
        obtain ⟨xt, hxt⟩ := Int.eq_ofNat_of_zero_le b5
        rw [hxl] at k1 b2
        rw [hxb] at k2 b4
        rw [hxt] at k3 b6
        have HX := Lib.hid (show r.l.toNat = xl ∧ r.b.toNat = xb ∧ r.t.toNat = xt by rw [hxl, hxb, hxt]; exact ⟨rfl, rfl, rfl⟩)
        have hst := stF
        obtain ⟨xs, hxs⟩ : ∃ x, x = r.s := ⟨_, rfl⟩
        rw [← hxs] at k0
        have HXS := Lib.hid hxs
        have hokx : Sh.okF xs = true := by rw [hxs]; exact HOK.out _ r hr
        obtain ⟨W3, hW3⟩ : ∃ W, W = wr.alloc (.cells #[.float .f64 xs, .int .i64 xl, .int .i64 xb, .int .i64 xt] 48) := ⟨_, rfl⟩
        have HB3 : Hid (Below wr.heap.size wr W3) := by rw [hW3]; exact Lib.hid ((Below.refl _ _).alloc (Nat.le_refl _) _)
        have hru := ruleText_any xs xl xb xt hokx (by omega) (by omega) (by omega) W3 ((HT1.out.next HBr.out).next HB3.out)
        have HW3 := Lib.hid hW3
        clear b1 b3 b5 hr hrm hxs hxl hxb hxt hW3 hokx
        go_wp2_with fail
        rw [← HW3.out]
        go_wp2_with fail
        refine hru.mono ?_
        rintro e W4 ⟨hb4, hsp⟩
        have HB4 := Lib.hid (below_step HB3.out HB3.out.size hb4)
        clear hru hb4
        rcases hsp with ⟨p, hp, rfl⟩ | ⟨hp, rfl⟩
        · have hpo : pctOf r.s = some p := by rw [← HXS.out]; exact hp
          have hp1 := (pctOf_some hp).1
          have hsn := prR_snoc HP.out hpo
          obtain ⟨x1, x2, x3⟩ := HX.out
          rw [x1, x2, x3] at hsn
          have htk : R.take (P.length + 1) = R.take P.length ++ [r] := by rw [List.take_add_one, HRR.out]; rfl
          rw [← htk] at hsn
          have HSN := Lib.hid hsn
          have HPO : Hid (∀ x ∈ P ++ [(⟨p, xl, xb, xt⟩ : Pr)], PrOk x) := Lib.hid fun x hx => by
            rcases List.mem_append.1 hx with h | h
            · exact HOKP.out x h
            · simp at h
              subst h
              exact ⟨hp1, (show xl ≤ 9999 by omega), (show xb ≤ 9999 by omega), (show xt ≤ 9999 by omega)⟩
          have B4 := HBC.out.next HB4.out
          obtain ⟨so, hso⟩ := HSR.out.2.2 P.length hlt
          have c4 := (B4.cell P.length).trans hso
          have f4 := B4.frozen P.length
          have HBC4 := Lib.hid B4
          clear hp hpo hsn x1 x2 x3 htk B4 hso
          go_wp2_with fail
          have hbr := HBr.out
          have hbe : Below rb W1 W4 := below_step (by rw [HRB.out]; exact hbr) (by rw [HRB.out]; exact hbr.size) HB4.out
          exact ⟨⟨P ++ [⟨p, xl, xb, xt⟩], by simp; omega, by simp, by rw [List.length_append]; exact HSN.out, HPO.out, hbe.setCell (Nat.le_refl _) _, _, HBC4.out.set_ _ _, HSR.out.put hlt _⟩, by simp [intOf]; omega⟩
        · have hn : pctOf r.s = none := by rw [← HXS.out]; exact hp
          obtain ⟨e1, e2⟩ := HNO.out (prR_none HRM.out hn)
          subst e1 e2
          clear hn hp
          go_wp2
          go_ret2
          refine ⟨?_, below_step HBU.out (Nat.le_of_lt zU) (below_step HB1.out HB1.out.size (below_step HBr.out HBr.out.size HB4.out))⟩
          show Ending.returned (.tuple #[.string { data := #[] }, .int .i64 6]) = _
          rw [tNil_lit]
      · have hlt2 : ¬ (P.length : Int) < R.length := by omega
        have hPn : P.length = R.length := by omega
        have hPR := HP.out
        rw [hPn, List.take_length] at hPR
        obtain ⟨e1, e2⟩ := HYES.out P hPR
        subst e1 e2
        have PB := BSW.out.next HBr.out
        have p0 := PB.cell 0
        have p2 := PB.cell 2
        simp at p0 p2
        clear hPR
        obtain ⟨hz1, hz2, _⟩ := HSR.out
        have hjn := Lib.hid (join_any rb R.length P wr.drew (fun j r h => by
          rw [Nat.zero_add]
          show wr.cell? _ = _
          rw [HBC.out.cell j, hz2 j r h]) HBC.out.lt (by omega) (by omega) (by
          have := rls_len P HOKP.out
          omega))
        rw [hPn] at hjn
        have hit := fun W => itoaS fn (by omega) W
        have lF := tFull_lit
        have lC := tCol_lit
        have lO := tCo_lit
        have sz := tx_size
        have ap := tx_append
        have hd4 : (decL fn).length ≤ 4 := dec_len (by omega)
        have yF : tFull.length = 6 := rfl
        have yC : tCol.length = 2 := rfl
        obtain ⟨RL, hRL⟩ : ∃ L, L = rlsL P := ⟨_, rfl⟩
        have hrl : RL.length ≤ 88 := by have := rls_len P HOKP.out; rw [hRL]; omega
        have HTX := Lib.hid (show textL nm fn P = nm ++ (tFull ++ (decL fn ++ (tCol ++ RL))) by rw [hRL]; rfl)
        rw [← hRL] at hjn
        have c1 : ¬ 9223372036854775807 < nm.length + 6 := by omega
        have c2 : ¬ 9223372036854775807 < nm.length + 6 + (decL fn).length := by omega
        have c3 : ¬ 9223372036854775807 < nm.length + (6 + (decL fn).length) + 2 := by omega
        have c4 : ¬ 9223372036854775807 < nm.length + (6 + ((decL fn).length + 2)) + RL.length := by omega
        clear hRL hz2
        go_upto_region 13 with fail
        have zr : w.heap.size < wr.heap.size := PB.lt
        refine wp_region_held_drew (S := (fun w' => w'.cell? ⟨w.heap.size, 0, none⟩ = some (.string (tx nm)) ∧ w'.cell? ⟨w.heap.size, 2, none⟩ = some (.int .i64 (fn : Int)))) (by kernel_rfl) ?_ (fun hHeld => ?_)
        · exact ⟨p0, p2⟩
        (refine wpAnyH_take (i := 0) (v := ?_) rfl (by kernel_rfl) (by kernel_rfl) (by kernel_rfl) (fun _ _ _ h => h) (Or.inl ⟨by rfl, ?_⟩) (by assumption) ?_; rotate_left 1; (focus (intro w' hSw; (try dsimp only at hSw); go_simp; (try with_reducible rfl); done)); try simp only [Act.put, List.setIfInBounds_toArray, List.set_cons_zero, List.set_cons_succ, List.getElem_toArray, List.getElem_cons_zero])
        (refine wpAnyH_take (i := 1) (v := ?_) rfl (by kernel_rfl) (by kernel_rfl) (by kernel_rfl) (fun _ _ _ h => h) (Or.inl ⟨by rfl, ?_⟩) (by assumption) ?_; rotate_left 1; (focus (intro w' hSw; (try dsimp only at hSw); go_simp; (try with_reducible rfl); done)); try simp only [Act.put, List.setIfInBounds_toArray, List.set_cons_zero, List.set_cons_succ, List.getElem_toArray, List.getElem_cons_zero, List.getElem_cons_succ])
        (refine wpAnyH_take (i := 2) (v := ?_) rfl (by kernel_rfl) (by kernel_rfl) (by kernel_rfl) (fun _ _ _ h => h) (Or.inl ⟨by rfl, ?_⟩) (by assumption) ?_; rotate_left 1; (focus (intro w' hSw; (try dsimp only at hSw); go_simp; (try with_reducible rfl); done)); try simp only [Act.put, List.setIfInBounds_toArray, List.set_cons_zero, List.set_cons_succ, List.getElem_toArray, List.getElem_cons_zero, List.getElem_cons_succ])
        (refine wpAnyH_take (i := 3) (v := ?_) rfl (by kernel_rfl) (by kernel_rfl) (by kernel_rfl) (fun _ _ _ h => h) (Or.inl ⟨by rfl, ?_⟩) (by assumption) ?_; rotate_left 1; (focus (intro w' hSw; (try dsimp only at hSw); go_simp; (try with_reducible rfl); done)); try simp only [Act.put, List.setIfInBounds_toArray, List.set_cons_zero, List.set_cons_succ, List.getElem_toArray, List.getElem_cons_zero, List.getElem_cons_succ])
        (refine wpAnyH_take (i := 4) (v := ?_) rfl (by kernel_rfl) (by kernel_rfl) (by kernel_rfl) (fun _ _ _ h => h) (Or.inl ⟨by rfl, ?_⟩) (by assumption) ?_; rotate_left 1; (focus (intro w' hSw; (try dsimp only at hSw); go_simp; (try with_reducible rfl); done)); try simp only [Act.put, List.setIfInBounds_toArray, List.set_cons_zero, List.set_cons_succ, List.getElem_toArray, List.getElem_cons_zero, List.getElem_cons_succ])
        (refine wpAnyH_take (i := 8) (v := ?_) rfl (by kernel_rfl) (by kernel_rfl) (by kernel_rfl) (fun _ _ _ h => h) (Or.inl ⟨by rfl, ?_⟩) (by assumption) ?_; rotate_left 1; (focus (intro w' hSw; (try dsimp only at hSw); go_simp; (try with_reducible rfl); done)); try simp only [Act.put, List.setIfInBounds_toArray, List.set_cons_zero, List.set_cons_succ, List.getElem_toArray, List.getElem_cons_zero, List.getElem_cons_succ])
        refine wpAnyH_ready (rs := [5]) (by kernel_rfl) (by simp) ?_
        refine AllReadyH.cons rfl (fun K hK => ?_) AllReadyH.nil
        go_simp
        go_at_call 21
        refine (hit _).mono ?_
        rintro e N1 ⟨rfl, rfl⟩
        go_wp2_with fail
        refine hK.out _ _ hHeld (fun hHeld2 => ?_)
        clear hK K hHeld
        have hHeld := hHeld2
        clear hHeld2
        try simp only [Act.put, List.setIfInBounds_toArray, List.set_cons_zero, List.set_cons_succ, List.getElem_toArray, List.getElem_cons_zero, List.getElem_cons_succ]
        (refine wpAnyH_take (i := 6) (v := ?_) rfl (by kernel_rfl) (by kernel_rfl) (by kernel_rfl) (fun _ _ _ h => h) (Or.inl ⟨by rfl, ?_⟩) (by assumption) ?_; rotate_left 1; (focus (intro w' hSw; (try dsimp only at hSw); go_simp; (try with_reducible rfl); done)); try simp only [Act.put, List.setIfInBounds_toArray, List.set_cons_zero, List.set_cons_succ, List.getElem_toArray, List.getElem_cons_zero, List.getElem_cons_succ])
        (refine wpAnyH_take (i := 7) (v := ?_) rfl (by kernel_rfl) (by kernel_rfl) (by kernel_rfl) (fun _ _ _ h => h) (Or.inl ⟨by rfl, ?_⟩) (by assumption) ?_; rotate_left 1; (focus (intro w' hSw; (try dsimp only at hSw); go_simp; (try with_reducible rfl); done)); try simp only [Act.put, List.setIfInBounds_toArray, List.set_cons_zero, List.set_cons_succ, List.getElem_toArray, List.getElem_cons_zero, List.getElem_cons_succ])
        refine wpAnyH_ready (rs := [9]) (by kernel_rfl) (by simp) ?_
        refine AllReadyH.cons rfl (fun K hK => ?_) AllReadyH.nil
        go_simp
        go_at_call 22
        refine (hjn.out).mono ?_
        rintro e N2 ⟨rfl, bN2⟩
        have zr : w.heap.size < wr.drew.heap.size := zr
        go_wp2_with fail
        refine hK.out _ _ ⟨(bN2.cell (p := ⟨_, 0, none⟩) zr).trans hHeld.1, (bN2.cell (p := ⟨_, 2, none⟩) zr).trans hHeld.2⟩ (fun hHeld2 => ?_)
        clear hK K hHeld
        have hHeld := hHeld2
        clear hHeld2
        try simp only [Act.put, List.setIfInBounds_toArray, List.set_cons_zero, List.set_cons_succ, List.getElem_toArray, List.getElem_cons_zero, List.getElem_cons_succ]
        (refine wpAnyH_take (i := 10) (v := ?_) rfl (by kernel_rfl) (by kernel_rfl) (by kernel_rfl) (fun _ _ _ h => h) (Or.inl ⟨by rfl, ?_⟩) (by assumption) ?_; rotate_left 1; (focus (intro w' hSw; (try dsimp only at hSw); go_simp; (try with_reducible rfl); done)); try simp only [Act.put, List.setIfInBounds_toArray, List.set_cons_zero, List.set_cons_succ, List.getElem_toArray, List.getElem_cons_zero, List.getElem_cons_succ])
        (refine wpAnyH_take (i := 11) (v := ?_) rfl (by kernel_rfl) (by kernel_rfl) (by kernel_rfl) (fun _ _ _ h => h) (Or.inl ⟨by rfl, ?_⟩) (by assumption) ?_; rotate_left 1; (focus (intro w' hSw; (try dsimp only at hSw); go_simp; (try with_reducible rfl); done)); try simp only [Act.put, List.setIfInBounds_toArray, List.set_cons_zero, List.set_cons_succ, List.getElem_toArray, List.getElem_cons_zero, List.getElem_cons_succ])
        (refine wpAnyH_take (i := 12) (v := ?_) rfl (by kernel_rfl) (by kernel_rfl) (by kernel_rfl) (fun _ _ _ h => h) (Or.inl ⟨by rfl, ?_⟩) (by assumption) ?_; rotate_left 1; (focus (intro w' hSw; (try dsimp only at hSw); go_simp; (try with_reducible rfl); done)); try simp only [Act.put, List.setIfInBounds_toArray, List.set_cons_zero, List.set_cons_succ, List.getElem_toArray, List.getElem_cons_zero, List.getElem_cons_succ])
        refine wpAnyH_done (by kernel_rfl) ?_ _
        clear hHeld
        have BN2 := Lib.hid bN2
        clear bN2
        go_wp2_with fail
        go_ret2
        refine ⟨by rw [HTX.out]; rfl, below_step HBU.out (Nat.le_of_lt zU) (below_step HB1.out HB1.out.size (below_step HBr.out HBr.out.size ((Below.refl _ _).drew.trans (show Below wr.heap.size wr.drew N2 from BN2.out))))⟩
  · have hk2 : (chk s R f != 0) = true := by simpa using hk
    have e1 : TE = chk s R f := by rw [hTE]; unfold prtE; rw [if_neg hk]
    have e2 : TL = [] := by rw [hTL]; unfold prtL; rw [if_neg hk]
    subst e2
    have E1 := Lib.hid e1
    have lN := tNil_lit
    clear hk e1 hTL hTE
    generalize chk s R f = K at *
    go_enter Tryd.func9, Tryd.ntmps9
    go_wp2_with fail
    rw [← HU.out]
    refine hc.mono ?_
    rintro e w2 ⟨rfl, hb2⟩
    have HB2 := Lib.hid hb2
    clear hc hb2
    go_wp2
    go_ret2
    refine ⟨?_, below_step HBU.out (Nat.le_of_lt zU) HB2.out⟩
    show Ending.returned (.tuple #[.string { data := #[] }, .int .i64 K]) = _
    rw [E1.out, tNil_lit]
end Go.Proofs.YtodnicaidmilkaaDoor
