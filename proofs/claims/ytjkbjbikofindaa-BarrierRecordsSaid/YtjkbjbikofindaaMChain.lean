/-
  Merged: From, Lst, Stp, Stq, Idx, Chord.
-/
import Derived.Test.YtjkbjbikofindaaMRef
import Derived.Test.YtjkbjbikofindaaMPool
import Derived.Test.YtjkbjbikofindaaMPure
import Derived.Test.YtjkbjbikofindaaMVal
import Derived.Test.YtjkbjbikofindaaMRVal
import Derived.Test.YtjkbjbikofindaaMBase
namespace Go.Proofs.Ytjkbjbikofindaa
open Go.RowKit
set_option maxRecDepth 100000
set_option linter.unusedVariables false

theorem chainList_numL {F : Nat → Fr} {n p m : Nat} (h : FV F n) (hp : p < n) (hl : LenP F p m) : chainList F p m = numL (chL F n p) := by
  have hlen := chL_length hl (hl.bound h rfl hp)
  refine List.ext_getElem? fun i => ?_
  rcases Nat.lt_or_ge i m with hi | hi
  · have h1 := chL_get h hp hl hi
    have h2 := h.nonneg hp (hl.2 i hi)
    simp only [chainList, numL, List.getElem?_map, h1, List.getElem?_range hi, Option.map_some]
    congr 2
    omega
  · rw [List.getElem?_eq_none (by simp [chainList]; exact hi), List.getElem?_eq_none (by simp [numL]; omega)]
theorem ChainOf.nums {F : Nat → Fr} {n p : Nat} {w w' : World} {e : Ending} (h : ChainOf F p w e w') (hv : FV F n) (hp : p < n) : GivesNums (chL F n p) w e w' := by
  obtain ⟨m, v, rfl, h1, h2, hown, hb⟩ := h
  rw [chainList_numL hv hp ⟨h1, h2⟩] at hown
  obtain ⟨A, c, rfl, hn, hlen⟩ := nums_of_row hown
  subst hlen
  exact ⟨A, c, rfl, hn, hb⟩

theorem refChain_any (s : Int) (V1 : Value) (A' : Option Addr) (n c' p : Nat) (F : Nat → Fr) (w : World) (hT : Tab w w.heap.size A' n c' F) (hn : n ≤ 64) (hv : FV F n) (hp : p < n) :
    Calls Try.prog 91 #[.agg #[.int .i64 s, V1, .slice A' n c'], .int .i64 p] w (GivesNums (chL F n p) w) :=
  (chain_any s V1 A' n c' p F w hT hn hv hp).mono fun _ _ h => h.nums hv hp

/-! Numbers of frames. -/
/-! slices.Contains at numbers. -/
/-! Whether a frame follows another. -/
end Go.Proofs.Ytjkbjbikofindaa

namespace Go.Proofs.Ytjkbjbikofindaa
open Go.RowKit
set_option maxRecDepth 100000
set_option linter.unusedVariables false

/-- A slice of the numbers of a list, and an error. -/
def GivesLst (l : List Nat) (x : Int) (w : World) (e : Ending) (w' : World) : Prop :=
  ∃ (A : Option Addr) (c : Nat), e = .returned (.tuple #[.slice A l.length c, .int .i64 x]) ∧ Nums w' w'.heap.size A l.length c (numF l) ∧ Below w.heap.size w w'
theorem gives_none {w w' : World} {x : Int} (h : Below w.heap.size w w') : GivesLst [] x w (.returned (.tuple #[.slice none 0 0, .int .i64 x])) w' := ⟨none, 0, rfl, Nums.nil _ _ _, h⟩
section
variable {s : Int} {nw : Nat} {wd : Nat → Int} {n : Nat} {F : Nat → Fr} {first : Int}
theorem lst_bad (h : validB s nw wd n F = false) : lstE s nw wd n F first = 1 ∧ lstL s nw wd n F first = [] := by
  have h1 : lstE s nw wd n F first = 1 := by unfold lstE; rw [if_pos h]
  exact ⟨h1, by unfold lstL; rw [h1]; rfl⟩
theorem lst_out (h : validB s nw wd n F = true) (h2 : inB n first = false) : lstE s nw wd n F first = 2 ∧ lstL s nw wd n F first = [] := by
  have h1 : lstE s nw wd n F first = 2 := by unfold lstE; rw [if_neg (by simp [h]), if_pos h2]
  exact ⟨h1, by unfold lstL; rw [h1]; rfl⟩
theorem lst_free (h : validB s nw wd n F = true) {f : Nat} (h2 : f < n) (h3 : (F f).ow = -1) : lstE s nw wd n F f = 5 ∧ lstL s nw wd n F f = [] := by
  have h1 : lstE s nw wd n F f = 5 := by unfold lstE; rw [if_neg (by simp [h]), if_neg (by simp [inB]; omega), Int.toNat_natCast, if_pos h3]
  exact ⟨h1, by unfold lstL; rw [h1]; rfl⟩
theorem lst_ok (h : validB s nw wd n F = true) {f : Nat} (h2 : f < n) (h3 : (F f).ow ≠ -1) : lstE s nw wd n F f = 0 ∧ lstL s nw wd n F f = chL F n f := by
  have h1 : lstE s nw wd n F f = 0 := by unfold lstE; rw [if_neg (by simp [h]), if_neg (by simp [inB]; omega), Int.toNat_natCast, if_neg h3]
  exact ⟨h1, by unfold lstL; rw [h1, if_pos rfl, Int.toNat_natCast]⟩
theorem inB_nat {n : Nat} {f : Int} (h : inB n f = true) : ∃ j : Nat, f = j ∧ j < n := by
  obtain ⟨a, b⟩ := inB_yes h
  exact ⟨f.toNat, by omega, by omega⟩
end

end Go.Proofs.Ytjkbjbikofindaa

namespace Go.Proofs.Ytjkbjbikofindaa
open Go.RowKit
set_option maxRecDepth 100000
set_option linter.unusedVariables false

theorem adB_yes {nw : Nat} {a : Int} (h : adB nw a = true) : 0 ≤ a ∧ a < nw := by simpa [adB] using h
theorem adB_of {nw : Nat} {a : Int} (h : 0 ≤ a ∧ a < nw) : adB nw a = true := by simpa [adB] using h
theorem adB_no {nw : Nat} {a : Int} (h : ¬ (0 ≤ a ∧ a < nw)) : adB nw a = false := by
  cases e : adB nw a
  · rfl
  · exact absurd (adB_yes e) h
section
variable {s : Int} {nw : Nat} {wd : Nat → Int} {n : Nat} {F : Nat → Fr} {a k : Int}
theorem stp_bad (h : validB s nw wd n F = false) : stpE s nw wd n F a k = 1 ∧ stpV s nw wd n F a k = 0 := by
  have h1 : stpE s nw wd n F a k = 1 := by unfold stpE; rw [if_pos h]
  exact ⟨h1, by unfold stpV; rw [h1]; rfl⟩
theorem stp_out (h : validB s nw wd n F = true) (h2 : adB nw a = false ∨ k < 0) : stpE s nw wd n F a k = 2 ∧ stpV s nw wd n F a k = 0 := by
  have h1 : stpE s nw wd n F a k = 2 := by unfold stpE; rw [if_neg (by simp [h]), if_pos h2]
  exact ⟨h1, by unfold stpV; rw [h1]; rfl⟩
/-- An address and its parts. -/
def PartsA (K : Nat) (a : Int) (y r : Nat) : Prop := a / 2 ^ K = (y : Int) ∧ a % 2 ^ K = (r : Int) ∧ r < 2 ^ K ∧ a = ((y * 2 ^ K + r : Nat) : Int)
theorem partsA {K nw n : Nat} {a : Int} (h : adB nw a = true) (hw : nw = n * 2 ^ K) : ∃ y r : Nat, PartsA K a y r ∧ y < n := by
  obtain ⟨h1, h2⟩ := adB_yes h
  obtain ⟨x, rfl⟩ := Int.eq_ofNat_of_zero_le h1
  have ez : (2 : Int) ^ K = ((2 ^ K : Nat) : Int) := by simp
  refine ⟨x / 2 ^ K, x % 2 ^ K, ⟨by rw [ez]; exact (Int.natCast_ediv _ _).symm, by rw [ez]; exact (Int.natCast_emod _ _).symm, Nat.mod_lt _ (Nat.two_pow_pos K), ?_⟩, ?_⟩
  · rw [Nat.mul_comm, Nat.div_add_mod]
  · exact Nat.div_lt_of_lt_mul (by rw [Nat.mul_comm, ← hw]; omega)
theorem stp_free {K y r : Nat} (h : validB K nw wd n F = true) (h2 : adB nw a = true) (hk : 0 ≤ k) (hp : PartsA K a y r) (h3 : (F y).ow = -1) : stpE K nw wd n F a k = 5 ∧ stpV K nw wd n F a k = 0 := by
  have h1 : stpE K nw wd n F a k = 5 := by unfold stpE; rw [if_neg (by simp [h]), if_neg (by simp [h2]; omega), Int.toNat_natCast, hp.1, Int.toNat_natCast, if_pos h3]
  exact ⟨h1, by unfold stpV; rw [h1]; rfl⟩
theorem stp_end {K y r m x : Nat} (h : validB K nw wd n F = true) (h2 : adB nw a = true) (hp : PartsA K a y r) (h3 : (F y).ow ≠ -1) (hm : (chL F n y).length = m) (hx : m * 2 ^ K ≤ r + x) : stpE K nw wd n F a x = 2 ∧ stpV K nw wd n F a x = 0 := by
  have ez : (2 : Int) ^ K = ((2 ^ K : Nat) : Int) := by simp
  have h1 : stpE K nw wd n F a x = 2 := by
    unfold stpE; rw [if_neg (by simp [h]), if_neg (by simp [h2]), Int.toNat_natCast, hp.1, Int.toNat_natCast, if_neg h3, hm, hp.2.1, ez, if_pos]
    rw [← Int.natCast_mul]
    omega
  exact ⟨h1, by unfold stpV; rw [h1]; rfl⟩
theorem stp_ok {K y r m x : Nat} (h : validB K nw wd n F = true) (h2 : adB nw a = true) (hp : PartsA K a y r) (h3 : (F y).ow ≠ -1) (hm : (chL F n y).length = m) (hx : r + x < m * 2 ^ K) : stpE K nw wd n F a x = 0 ∧ stpV K nw wd n F a x = addrP F K y (r + x) := by
  have ez : (2 : Int) ^ K = ((2 ^ K : Nat) : Int) := by simp
  have h1 : stpE K nw wd n F a x = 0 := by
    unfold stpE; rw [if_neg (by simp [h]), if_neg (by simp [h2]), Int.toNat_natCast, hp.1, Int.toNat_natCast, if_neg h3, hm, hp.2.1, ez, if_neg]
    rw [← Int.natCast_mul]
    omega
  refine ⟨h1, ?_⟩
  unfold stpV
  rw [h1, if_pos rfl, Int.toNat_natCast, hp.1, hp.2.1, show ((r : Int) + x).toNat = r + x by omega]
end

/-- What holds on the way along a chain of m frames, to its place P or its end. -/
def GoAt5 (F : Nat → Fr) (n : Nat) (first : Int) (m z P : Nat) (kk f at_ : Value) : Prop :=
  ∃ q y r x : Nat, f = .int .i64 y ∧ iter F q first = y ∧ y < n ∧ at_ = .int .i64 r ∧ r < z ∧ kk = .int .i64 x ∧ q * z + r + x = P ∧ q < m ∧ (x : Int) ≤ 9223372036854775807

set_option maxHeartbeats 4000000 in
theorem refGo5_any (K : Nat) (A A' : Option Addr) (nw c n c' : Nat) (wd : Nat → Int) (F : Nat → Fr) (a j : Int) (w : World) (hT : Tab w w.heap.size A' n c' F) (hvp : ValidP K nw wd n F) (j0 : -9223372036854775808 ≤ j) (j1 : j ≤ 9223372036854775807) :
    Calls Try.prog 18 #[.agg #[.int .i64 K, .slice A nw c, .slice A' n c'], .int .i64 a, .int .i64 j] w (Gives2 (stpV K nw wd n F a j) (stpE K nw wd n F a j) w) := by
  have hv := validB_yes hvp
  obtain ⟨s0, s1⟩ := shB_yes hvp.1
  obtain ⟨n0, n64⟩ := nfB_yes hvp.2.1
  have hw := hvp.2.2.1
  rw [Int.toNat_natCast] at hw
  obtain ⟨U, hU⟩ : ∃ U, U = w.alloc (.cells #[.int .i64 K, .slice A nw c, .slice A' n c'] 25) := ⟨_, rfl⟩
  have BU : Blk U w.heap.size 25 #[.int .i64 K, .slice A nw c, .slice A' n c'] := by rw [hU]; exact Blk.new _ _ _
  have HBU : Hid (Below w.heap.size w U) := by rw [hU]; exact (Below.refl _ _).alloc (Nat.le_refl _) _
  have HU := Lib.hid hU
  have p0 := BU.cell 0
  have p1 := BU.cell 1
  have p2 := BU.cell 2
  have pzz := BU.lt
  simp at p0 p1 p2
  clear hU
  by_cases hbad : adB nw a = false ∨ j < 0
  · obtain ⟨e1, e2⟩ := stp_out hv hbad
    rw [e1, e2]
    by_cases h0 : a < 0
    · clear e1 e2 hbad hv hvp hw
      go_enter Try.func18, Try.ntmps18
      go_wp2
      rw [← HU.out]
      go_ret2
      exact ⟨rfl, HBU.out⟩
    · by_cases h2 : (nw : Int) ≤ a
      · clear e1 e2 hbad hv hvp hw
        go_enter Try.func18, Try.ntmps18
        go_wp2
        rw [← HU.out]
        go_ret2
        exact ⟨rfl, HBU.out⟩
      · have h3 : j < 0 := by
          rcases hbad with h | h
          · have := adB_of (nw := nw) (a := a) (by omega)
            rw [h] at this; cases this
          · exact h
        clear e1 e2 hbad hv hvp hw
        go_enter Try.func18, Try.ntmps18
        go_wp2
        rw [← HU.out]
        go_ret2
        exact ⟨rfl, HBU.out⟩
  · have had : adB nw a = true := by
      cases e : adB nw a
      · exact absurd (.inl e) hbad
      · rfl
    have hj0 : 0 ≤ j := by
      rcases Int.lt_or_le j 0 with h | h
      · exact absurd (.inr h) hbad
      · exact h
    obtain ⟨J, rfl⟩ := Int.eq_ofNat_of_zero_le hj0
    obtain ⟨a0, a1⟩ := adB_yes had
    have hnw := prod_le (n := n) (k := K) (by omega) (by omega)
    obtain ⟨y, r, hpa, hyn⟩ := partsA had hw
    have hlow := and_low' a K a0 (by omega) (by omega)
    obtain ⟨z, hz⟩ : ∃ z, z = 2 ^ K := ⟨_, rfl⟩
    have z0 : 0 < z := by rw [hz]; exact Nat.two_pow_pos K
    have z1 : z ≤ 256 := by
      have := pw_bd (k := K) (by omega)
      have e : ((2 ^ K : Nat) : Int) = (2 : Int) ^ K := by simp
      omega
    have ez : (2 : Int) ^ K = z := by rw [hz]; simp
    have hrz : r < z := by rw [hz]; exact hpa.2.2.1
    have hdiv := hpa.1
    rw [hpa.2.1] at hlow
    have HPA := Lib.hid hpa
    have HV := Lib.hid hv
    have HAD := Lib.hid had
    have HFV := Lib.hid hvp.fv
    have HLOW := Lib.hid hlow
    have HDIV := Lib.hid hdiv
    have HZ := Lib.hid hz
    have HEZ := Lib.hid ez
    have pz : 0 < (2 : Int) ^ K := pw_pos K
    have pz2 : (2 : Int) ^ K ≤ 256 := pw_bd (by omega)
    have HT := Lib.hid hT
    obtain ⟨b, oo, rfl, hbb⟩ := hT.base_ (by omega)
    obtain ⟨_, c0, _, _⟩ := hT.cells y hyn
    have yi : 0 ≤ (y : Int) ∧ (y : Int) < n := by omega
    obtain ⟨ow, how⟩ : ∃ o, o = (F y).ow := ⟨_, rfl⟩
    rw [← how] at c0
    have d0 : U.cell? ⟨b, oo + y * 3, none⟩ = some (.int .i64 ow) := (HBU.out.cell (p := ⟨b, _, none⟩) hbb).trans c0
    have HOW := Lib.hid how
    clear hT hz ez hdiv hlow hw c0 hpa had hbad hvp how
    by_cases ho : ow = -1
    · obtain ⟨e1, e2⟩ := stp_free (k := (J : Int)) hv HAD.out hj0 HPA.out (HOW.out ▸ ho)
      rw [e1, e2]
      have hneg : (ow == -1) = true := by simpa using ho
      clear e1 e2 hv ho
      go_enter Try.func18, Try.ntmps18
      go_wp2
      rw [← HU.out]
      go_quiet (fail)
      rw [HLOW.out, HDIV.out]
      go_wp2
      go_ret2
      exact ⟨rfl, after_drawn _ HBU.out⟩
    · have hneg : (ow == -1) = false := by simpa using ho
      have HNO := Lib.hid (show (F y).ow ≠ -1 from HOW.out ▸ ho)
      obtain ⟨m, hmb, hlen⟩ := HFV.out.len hyn
      have hm0 := hlen.pos
      have HLEN := Lib.hid hlen
      have HM := Lib.hid (chL_length (n := n) hlen hmb)
      clear hv ho hlen
      go_enter Try.func18, Try.ntmps18
      go_wp2
      rw [← HU.out]
      go_quiet (fail)
      rw [HLOW.out, HDIV.out]
      go_wp2
      obtain ⟨V, hV⟩ : ∃ V, V = U.drewN nq := ⟨_, rfl⟩
      have BV : Blk V w.heap.size 25 #[.int .i64 K, .slice A nw c, .slice (some ⟨b, oo, none⟩) n c'] := by rw [hV]; exact BU
      have HBV : Hid (Below w.heap.size w V) := by rw [hV]; exact HBU.out.trans ⟨rfl, rfl, rfl, Nat.le_refl _, fun _ _ => rfl⟩
      rw [← hV]
      have p0 := BV.cell 0
      have p2 := BV.cell 2
      simp at p0 p2
      have HTV : Hid (Tab V w.heap.size (some ⟨b, oo, none⟩) n c' F) := HT.out.below HBV.out
      have ez := HEZ.out
      clear hV BU p1 d0
      go_loop [2, 8, 9] (fun kk f at_ => GoAt5 F n y m z (r + J) kk f at_) (fun kk _ _ => (intOf kk).toNat)
      case atStart => exact ⟨0, y, r, J, rfl, rfl, hyn, rfl, hrz, rfl, by omega, hm0, j1⟩
      case round =>
        obtain ⟨q, y', r', x, rfl, hy', hyn', rfl, hr, rfl, hP, hqm', hx63⟩ := hrel
        have HP := Lib.hid hP
        have HY' := Lib.hid hy'
        have hnx : iter F (q + 1) y = (F y').nx := by rw [iter_succ, hy', if_neg (by omega), Int.toNat_natCast]
        obtain ⟨_, _, _, c2⟩ := HTV.out.cells y' hyn'
        have yi' : 0 ≤ (y' : Int) ∧ (y' : Int) < n := by omega
        clear hy'
        by_cases hx : z ≤ r' + x
        · have hx2 : (z : Int) - r' ≤ x := by omega
          have hqz : (q + 1) * z = q * z + z := by rw [Nat.add_mul, Nat.one_mul]
          by_cases hq1 : q + 1 < m
          · obtain ⟨y2, hy2⟩ : ∃ y2 : Nat, iter F (q + 1) y = y2 := ⟨(iter F (q + 1) y).toNat, by have := HFV.out.nonneg hyn (HLEN.out.2 _ hq1); omega⟩
            have hyn2 : y2 < n := by have := HFV.out.nonneg hyn (HLEN.out.2 _ hq1); omega
            rw [← hnx, hy2] at c2
            have hneg2 : ((y2 : Int) == -1) = false := by simp
            have HY2 := Lib.hid hy2
            have HP2 : Hid ((q + 1) * z + 0 + (x - (z - r')) = r + J) := by
              show (q + 1) * z + 0 + (x - (z - r')) = r + J
              have := HP.out
              omega
            clear hnx hy2 hP hqz
            go_wp2
            refine ⟨⟨q + 1, y2, 0, x - (z - r'), rfl, HY2.out, hyn2, rfl, z0, ?_, HP2.out, hq1, by omega⟩, by simp [intOf]; omega⟩
            exact congrArg (Value.int IntKind.i64) (by omega)
          · have hend : iter F (q + 1) y = -1 := by rw [show q + 1 = m by omega]; exact HLEN.out.1
            rw [← hnx, hend] at c2
            obtain ⟨e1, e2⟩ := stp_end (x := J) HV.out HAD.out HPA.out HNO.out HM.out (by
              have h1 : (q + 1) * z = m * 2 ^ K := by rw [show q + 1 = m by omega, HZ.out]
              omega)
            rw [e1, e2]
            clear hend hnx hqz hP
            go_wp2
            go_ret2
            exact ⟨rfl, HBV.out⟩
        · have hx2 : ¬ (z : Int) - r' ≤ x := by omega
          have hqz : (q + 1) * z ≤ m * 2 ^ K := by rw [← HZ.out]; exact Nat.mul_le_mul_right z (by omega)
          have hqz2 : (q + 1) * z = q * z + z := by rw [Nat.add_mul, Nat.one_mul]
          obtain ⟨e1, e2⟩ := stp_ok (x := J) HV.out HAD.out HPA.out HNO.out HM.out (by omega)
          have hres : addrP F K y (r + J) = (y' : Int) * 2 ^ K + ((r' + x : Nat) : Int) := addrP_at (q := q) (by rw [← HZ.out]; have := HP.out; omega) (by rw [← HZ.out]; omega) HY'.out
          rw [e1, e2]
          have HRES := Lib.hid hres
          have yz : 0 ≤ (y' : Int) * 2 ^ K ∧ (y' : Int) * 2 ^ K ≤ 16384 := prod_bd (by omega) (by omega)
          rw [ez] at yz
          clear hres hP hqz hqz2 hnx
          go_wp2
          go_ret2
          refine ⟨ret2 ?_ rfl, HBV.out⟩
          rw [HRES.out, ez]
          omega

end Go.Proofs.Ytjkbjbikofindaa

namespace Go.Proofs.Ytjkbjbikofindaa
open Go.RowKit
set_option maxRecDepth 100000
set_option linter.unusedVariables false

section
variable {nw n K : Nat} {a : Int}
theorem of_in (h : adB nw a = true) (hw : nw = n * 2 ^ K) (hs : 3 ≤ K ∧ K ≤ 8) (hn : n ≤ 64) {y r : Nat} (hp : PartsA K a y r) : ofE K n a = 0 ∧ ofF K n a = y ∧ ofO K n a = r := by
  obtain ⟨h1, h2⟩ := adB_yes h
  have ez : (2 : Int) ^ K = ((2 ^ K : Nat) : Int) := by simp
  have hnb : numB K n = true := by simp [numB, shB]; omega
  have e1 : ofE K n a = 0 := by
    unfold ofE
    rw [if_neg (by rw [hnb]; decide), if_neg]
    rw [Int.toNat_natCast, ez, ← Int.natCast_mul, ← hw]
    omega
  refine ⟨e1, ?_, ?_⟩
  · unfold ofF; rw [e1, if_pos rfl, Int.toNat_natCast]; exact hp.1
  · unfold ofO; rw [e1, if_pos rfl, Int.toNat_natCast]; exact hp.2.1
theorem of_out (h : adB nw a = false) (hw : nw = n * 2 ^ K) (hs : 3 ≤ K ∧ K ≤ 8) (hn : n ≤ 64) : ofE K n a = 2 ∧ ofF K n a = 0 ∧ ofO K n a = 0 := by
  have hnb : numB K n = true := by simp [numB, shB]; omega
  have ez : (2 : Int) ^ K = ((2 ^ K : Nat) : Int) := by simp
  have e1 : ofE K n a = 2 := by
    unfold ofE
    rw [if_neg (by rw [hnb]; decide), if_pos]
    rw [Int.toNat_natCast, ez, ← Int.natCast_mul, ← hw]
    rcases Int.lt_or_le a 0 with h1 | h1
    · exact .inl h1
    · rcases Int.lt_or_le a nw with h2 | h2
      · rw [adB_of ⟨h1, h2⟩] at h; cases h
      · exact .inr h2
  exact ⟨e1, by unfold ofF; rw [e1]; rfl, by unfold ofO; rw [e1]; rfl⟩
end

end Go.Proofs.Ytjkbjbikofindaa

namespace Go.Proofs.Ytjkbjbikofindaa
open Go.RowKit
set_option maxRecDepth 100000
set_option linter.unusedVariables false

section
variable {s : Int} {nw : Nat} {wd : Nat → Int} {n : Nat} {F : Nat → Fr} {first a : Int}
theorem idx_bad (h : validB s nw wd n F = false) : idxE s nw wd n F first a = 1 ∧ idxV s nw wd n F first a = 0 := by
  have h1 : idxE s nw wd n F first a = 1 := by unfold idxE; rw [if_pos h]
  exact ⟨h1, by unfold idxV; rw [h1]; rfl⟩
theorem idx_out (h : validB s nw wd n F = true) (h2 : inB n first = false ∨ adB nw a = false) : idxE s nw wd n F first a = 2 ∧ idxV s nw wd n F first a = 0 := by
  have h1 : idxE s nw wd n F first a = 2 := by unfold idxE; rw [if_neg (by simp [h]), if_pos h2]
  exact ⟨h1, by unfold idxV; rw [h1]; rfl⟩
theorem idx_free {f : Nat} (h : validB s nw wd n F = true) (hf : f < n) (h2 : adB nw a = true) (h3 : (F f).ow = -1) : idxE s nw wd n F f a = 5 ∧ idxV s nw wd n F f a = 0 := by
  have h1 : idxE s nw wd n F f a = 5 := by unfold idxE; rw [if_neg (by simp [h]), if_neg (by simp [h2, inB]; omega), Int.toNat_natCast, if_pos h3]
  exact ⟨h1, by unfold idxV; rw [h1]; rfl⟩
theorem idx_none {K f m y r : Nat} (h : validB K nw wd n F = true) (hv : FV F n) (hf : f < n) (h2 : adB nw a = true) (hp : PartsA K a y r) (h3 : (F f).ow ≠ -1) (hl : LenP F f m) (hno : ∀ i, i < m → iter F i f ≠ (y : Int)) : idxE K nw wd n F f a = 2 ∧ idxV K nw wd n F f a = 0 := by
  have h1 : idxE K nw wd n F f a = 2 := by
    unfold idxE
    rw [if_neg (by simp [h]), if_neg (by simp [h2, inB]; omega), Int.toNat_natCast, if_neg h3, Int.toNat_natCast, hp.1, Int.toNat_natCast, if_neg]
    rw [mem_chL' hv hf hl]
    rintro ⟨i, hi, he⟩
    exact hno i hi he
  exact ⟨h1, by unfold idxV; rw [h1]; rfl⟩
theorem idx_ok {K f m y r q : Nat} (h : validB K nw wd n F = true) (hv : FV F n) (hf : f < n) (h2 : adB nw a = true) (hp : PartsA K a y r) (h3 : (F f).ow ≠ -1) (hl : LenP F f m) (hq : q < m) (he : iter F q f = (y : Int)) (hno : ∀ i, i < q → iter F i f ≠ (y : Int)) :
    idxE K nw wd n F f a = 0 ∧ idxV K nw wd n F f a = ((q * 2 ^ K : Nat) : Int) + r := by
  have ez : (2 : Int) ^ K = ((2 ^ K : Nat) : Int) := by simp
  have h1 : idxE K nw wd n F f a = 0 := by
    unfold idxE
    rw [if_neg (by simp [h]), if_neg (by simp [h2, inB]; omega), Int.toNat_natCast, if_neg h3, Int.toNat_natCast, hp.1, Int.toNat_natCast, if_pos]
    rw [mem_chL' hv hf hl]
    exact ⟨q, hq, he⟩
  refine ⟨h1, ?_⟩
  unfold idxV
  rw [h1, if_pos rfl, Int.toNat_natCast, Int.toNat_natCast, hp.1, Int.toNat_natCast, chL_index hv hf hl hq he hno, hp.2.1, ez, ← Int.natCast_mul]
end

end Go.Proofs.Ytjkbjbikofindaa

namespace Go.Proofs.Ytjkbjbikofindaa
set_option maxRecDepth 100000
set_option linter.unusedVariables false

section
variable {F : Nat → Fr} {n : Nat}
/-- Along a chain that ends no frame comes twice. -/
theorem LenP.inj {p : Int} {m i j : Nat} (h : LenP F p m) (hij : i < j) (hj : j < m) : iter F i p ≠ iter F j p := by
  intro e
  have h1 : iter F (j + (m - j)) p = -1 := by rw [show j + (m - j) = m by omega]; exact h.1
  rw [iter_add, ← e, ← iter_add] at h1
  exact h.2 (i + (m - j)) (by omega) h1
theorem LenP.from_ {p : Int} {m q : Nat} (h : LenP F p m) (hq : q < m) : LenP F (iter F q p) (m - q) := by
  refine ⟨by rw [← iter_add, show q + (m - q) = m by omega]; exact h.1, fun i hi => ?_⟩
  rw [← iter_add]
  exact h.2 _ (by omega)
theorem addrP_add {K P Q q r : Nat} {first : Int} (hP : P = q * 2 ^ K + r) : addrP F K (iter F q first) (r + Q) = addrP F K first (P + Q) := by
  have hz : 0 < 2 ^ K := Nat.two_pow_pos K
  unfold addrP
  rw [← iter_add]
  have e1 : (P + Q) / 2 ^ K = q + (r + Q) / 2 ^ K := by
    rw [hP, Nat.add_assoc, Nat.add_comm (q * 2 ^ K), Nat.add_mul_div_right _ _ hz, Nat.add_comm]
  have e2 : (P + Q) % 2 ^ K = (r + Q) % 2 ^ K := by
    rw [hP, Nat.add_assoc, Nat.add_comm (q * 2 ^ K), Nat.add_mul_mod_self_right]
  rw [e1, e2]

/-- A chain is one array. -/
theorem chain_order {K nw m p P Q : Nat} {wd : Nat → Int} (hv : ValidP K nw wd n F) (hp : p < n) (ho : (F p).ow ≠ -1) (hl : LenP F p m) (hP : P < m * 2 ^ K) :
    ∃ X Y : Int, 0 ≤ X ∧ X < nw ∧ stpE K nw wd n F ((p : Int) * 2 ^ K) P = 0 ∧ stpV K nw wd n F ((p : Int) * 2 ^ K) P = X ∧ idxE K nw wd n F p X = 0 ∧ idxV K nw wd n F p X = P ∧
      (P + Q < m * 2 ^ K → stpE K nw wd n F X Q = 0 ∧ stpV K nw wd n F X Q = Y ∧ stpE K nw wd n F ((p : Int) * 2 ^ K) ((P : Int) + Q) = 0 ∧ stpV K nw wd n F ((p : Int) * 2 ^ K) ((P : Int) + Q) = Y) ∧
      (m * 2 ^ K ≤ P + Q → stpE K nw wd n F X Q = 2 ∧ stpV K nw wd n F X Q = 0 ∧ stpE K nw wd n F ((p : Int) * 2 ^ K) ((P : Int) + Q) = 2 ∧ stpV K nw wd n F ((p : Int) * 2 ^ K) ((P : Int) + Q) = 0) := by
  have hvb := validB_yes hv
  have hw := hv.2.2.1
  rw [Int.toNat_natCast] at hw
  have hz : 0 < 2 ^ K := Nat.two_pow_pos K
  have ez : (2 : Int) ^ K = ((2 ^ K : Nat) : Int) := by simp
  have hmb := hl.bound hv.fv rfl hp
  have hlen := chL_length (n := n) hl hmb
  -- the base of the chain
  have hpz : p * 2 ^ K + 2 ^ K ≤ n * 2 ^ K := by
    have := Nat.mul_le_mul_right (2 ^ K) (show p + 1 ≤ n by omega)
    rw [Nat.add_mul, Nat.one_mul] at this
    exact this
  have ha0 : adB nw ((p : Int) * 2 ^ K) = true := adB_of (by rw [ez, ← Int.natCast_mul]; omega)
  have hpa : PartsA K ((p : Int) * 2 ^ K) p 0 := by
    refine ⟨?_, ?_, hz, ?_⟩
    · rw [ez, ← Int.natCast_mul, ← Int.natCast_ediv, Nat.mul_div_cancel _ hz]
    · rw [ez, ← Int.natCast_mul, ← Int.natCast_emod, Nat.mul_mod_left]
    · rw [ez, ← Int.natCast_mul]; rfl
  -- the word at place P
  obtain ⟨q, hq⟩ : ∃ q, q = P / 2 ^ K := ⟨_, rfl⟩
  obtain ⟨r, hr⟩ : ∃ r, r = P % 2 ^ K := ⟨_, rfl⟩
  have hPq : P = q * 2 ^ K + r := by rw [hq, hr]; exact (Nat.div_add_mod' P (2 ^ K)).symm
  have hrz : r < 2 ^ K := by rw [hr]; exact Nat.mod_lt _ hz
  have hqm : q < m := by rw [hq]; exact Nat.div_lt_of_lt_mul (by rw [Nat.mul_comm]; exact hP)
  have hy0 := hv.fv.nonneg hp (hl.2 q hqm)
  obtain ⟨y, hy⟩ : ∃ y : Nat, iter F q p = y := ⟨(iter F q p).toNat, by omega⟩
  have hyn : y < n := by omega
  have hX : addrP F K p P = ((y * 2 ^ K + r : Nat) : Int) := by
    rw [addrP_at hPq hrz hy, ez]; simp
  have hyz : y * 2 ^ K + 2 ^ K ≤ n * 2 ^ K := by
    have := Nat.mul_le_mul_right (2 ^ K) (show y + 1 ≤ n by omega)
    rw [Nat.add_mul, Nat.one_mul] at this
    exact this
  have haX : adB nw (addrP F K p P) = true := adB_of (by rw [hX]; omega)
  have hpX : PartsA K (addrP F K p P) y r := by
    rw [hX]
    refine ⟨?_, ?_, hrz, rfl⟩
    · rw [ez, ← Int.natCast_ediv, Nat.add_comm, Nat.add_mul_div_right _ _ hz, Nat.div_eq_of_lt hrz, Nat.zero_add]
    · rw [ez, ← Int.natCast_emod, Nat.add_comm, Nat.add_mul_mod_self_right, Nat.mod_eq_of_lt hrz]
  have hoy : (F y).ow ≠ -1 := by
    have h1 := (hv.fv.along hp ho q (hl.2 q hqm)).1
    rw [hy, Int.toNat_natCast] at h1
    rw [h1]; exact ho
  have hly : LenP F y (m - q) := by rw [← hy]; exact hl.from_ hqm
  have hleny := chL_length (n := n) hly (by omega)
  obtain ⟨a1, a2⟩ := stp_ok (x := P) hvb ha0 hpa ho hlen (by omega)
  rw [Nat.zero_add] at a2
  obtain ⟨b1, b2⟩ := idx_ok hvb hv.fv hp haX hpX ho hl hqm hy (fun i hi => by rw [← hy]; exact hl.inj hi hqm)
  have hmq : (m - q) * 2 ^ K = m * 2 ^ K - q * 2 ^ K := Nat.sub_mul _ _ _
  have hqmz : q * 2 ^ K + 2 ^ K ≤ m * 2 ^ K := by
    have := Nat.mul_le_mul_right (2 ^ K) (show q + 1 ≤ m by omega)
    rw [Nat.add_mul, Nat.one_mul] at this
    exact this
  refine ⟨addrP F K p P, addrP F K p (P + Q), (adB_yes haX).1, (adB_yes haX).2, a1, a2, b1, ?_, fun hlt => ?_, fun hge => ?_⟩
  · rw [b2, ← Int.natCast_add, ← hPq]
  · obtain ⟨c1, c2⟩ := stp_ok (x := Q) hvb haX hpX hoy hleny (by omega)
    obtain ⟨d1, d2⟩ := stp_ok (x := P + Q) hvb ha0 hpa ho hlen (by omega)
    rw [Nat.zero_add] at d2
    refine ⟨c1, ?_, by rw [← Int.natCast_add]; exact d1, by rw [← Int.natCast_add]; exact d2⟩
    rw [c2, ← hy]
    exact addrP_add hPq
  · obtain ⟨c1, c2⟩ := stp_end (x := Q) hvb haX hpX hoy hleny (by omega)
    obtain ⟨d1, d2⟩ := stp_end (x := P + Q) hvb ha0 hpa ho hlen (by omega)
    exact ⟨c1, c2, by rw [← Int.natCast_add]; exact d1, by rw [← Int.natCast_add]; exact d2⟩
end

end Go.Proofs.Ytjkbjbikofindaa
