/-
  The reference's Check.
-/
import Derived.Test.YtmhbbjbbckdlbaaDoorCChk
namespace Go.Proofs.YtmhbbjbbckdlbaaDoor
open Go.RowKit
set_option maxRecDepth 100000
set_option linter.unusedVariables false

/-- What the table of targets holds behind t of n rules. -/
def amB (R : List Rl) (n t j : Nat) : Bool := j == 0 || (R.take (min t (n - 1))).any fun r => decide (r.t = (j : Int))
theorem amB_iff (R : List Rl) (n t j : Nat) : amB R n t j = true ↔ j = 0 ∨ ∃ (k : Nat) (r : Rl), k < t ∧ k < n - 1 ∧ R[k]? = some r ∧ r.t = j := by
  unfold amB
  rw [Bool.or_eq_true, beq_iff_eq, List.any_eq_true]
  constructor
  · rintro (h | ⟨r, hr, h⟩)
    · exact .inl h
    · obtain ⟨k, hk⟩ := List.mem_iff_getElem?.1 hr
      rw [List.getElem?_take] at hk
      split at hk
      · exact .inr ⟨k, r, by omega, by omega, hk, of_decide_eq_true h⟩
      · cases hk
  · rintro (h | ⟨k, r, h1, h2, hr, h⟩)
    · exact .inl h
    · refine .inr ⟨r, List.mem_iff_getElem?.2 ⟨k, ?_⟩, decide_eq_true h⟩
      rw [List.getElem?_take, if_pos (by omega)]
      exact hr
theorem amB_step {R : List Rl} {n t q : Nat} {r : Rl} (hr : R[t]? = some r) (ht : t + 1 < n) (hq : r.t = q) (j : Nat) : amB R n (t + 1) j = if j = q then true else amB R n t j := by
  split
  · rename_i h
    subst h
    exact (amB_iff _ _ _ _).2 (.inr ⟨t, r, by omega, by omega, hr, hq⟩)
  · rename_i h
    rw [Bool.eq_iff_iff, amB_iff, amB_iff]
    constructor
    · rintro (h1 | ⟨k, x, h1, h2, h3, h4⟩)
      · exact .inl h1
      · refine .inr ⟨k, x, ?_, h2, h3, h4⟩
        rcases (by omega : k < t ∨ k = t) with h5 | h5
        · exact h5
        · subst h5
          rw [hr] at h3
          injection h3 with h3
          subst h3
          omega
    · rintro (h1 | ⟨k, x, h1, h2, h3, h4⟩)
      · exact .inl h1
      · exact .inr ⟨k, x, by omega, h2, h3, h4⟩
theorem amB_last {R : List Rl} {n t : Nat} (ht : ¬ t + 1 < n) (j : Nat) : amB R n (t + 1) j = amB R n t j := by
  unfold amB
  rw [show min (t + 1) (n - 1) = min t (n - 1) by omega]
theorem amB_zero (R : List Rl) (n j : Nat) : amB R n 0 j = decide (j = 0) := by
  rw [Bool.eq_iff_iff, amB_iff, decide_eq_true_eq]
  constructor
  · rintro (h | ⟨k, r, h, _⟩)
    · exact h
    · omega
  · exact .inl
theorem amB_end {R : List Rl} (h4 : ∀ (j : Nat) (x : Rl), R[j]? = some x → ruleE R.length j x = 0) {b : Nat} (hb : b < R.length) (h0 : 1 ≤ b) : amB R R.length R.length b = aimB R b := by
  rw [Bool.eq_iff_iff, amB_iff, aimB_iff]
  constructor
  · rintro (h | ⟨k, r, h1, h2, h3, h5⟩)
    · omega
    · refine ⟨k, r, ?_, h3, h5⟩
      have := (ruleE_ok (h4 k r h3)).2.2
      unfold tgtOk at this
      rw [if_neg (by omega)] at this
      omega
  · rintro ⟨k, r, h1, h3, h5⟩
    exact .inr ⟨k, r, by omega, by omega, h3, h5⟩
theorem allB_no {R : List Rl} {b : Nat} (h0 : 1 ≤ b) (hb : b < R.length) (h : aimB R b = false) : allB R = false := by
  rcases e : allB R with _ | _
  · rfl
  · have := (allB_iff R).1 e b h0 hb
    rw [h] at this
    cases this

set_option maxHeartbeats 8000000 in
theorem refCheck_any (s : ByteArray) (A : Option Addr) (c : Nat) (R : List Rl) (f : Int) (w : World) (hR : RArr w (Lt w.heap.size) A c R) (hW : WfR R) (hs : s.size ≤ 9223372036854775807) :
    Calls Tryd.prog 45 #[.agg #[.string s, .slice A R.length c, .int .i64 f]] w fun e w' => e = .returned (.int .i64 (chk s R f)) ∧ Below w.heap.size w w' := by
  have hm := hR.2.1
  have hm' := hR.1
  simp only [maxLen] at hm
  obtain ⟨U, hU⟩ : ∃ U, U = w.alloc (.cells #[.string s, .slice A R.length c, .int .i64 f] 27) := ⟨_, rfl⟩
  have BS := Lib.hid (show Blk U w.heap.size 27 #[.string s, .slice A R.length c, .int .i64 f] by rw [hU]; exact Blk.new _ _ _)
  have HBU : Hid (Below w.heap.size w U) := by rw [hU]; exact Lib.hid ((Below.refl _ _).alloc (Nat.le_refl _) _)
  have HU := Lib.hid hU
  have HR := Lib.hid (hR.next HBU.out)
  have HW := Lib.hid hW
  clear hR hU hW
  have hn := fun W => refName_any s hs W
  rcases hb : nameB s with _ | _
  · rw [hb] at hn
    rw [chk_name hb]
    clear hb
    go_enter Tryd.func45, Tryd.ntmps45
    go_wp2_with fail
    refine (hn _).mono ?_
    rintro e w' ⟨rfl, rfl⟩
    clear hn
    go_wp2
    go_ret
    exact ⟨rfl, by rw [← HU.out]; exact HBU.out⟩
  · rw [hb] at hn
    have HN := Lib.hid hb
    clear hb
    by_cases h1 : (R.length : Int) < 1
    · rw [chk_len HN.out (.inl (by omega))]
      go_enter Tryd.func45, Tryd.ntmps45
      go_wp2_with fail
      refine (hn _).mono ?_
      rintro e w' ⟨rfl, rfl⟩
      clear hn
      go_wp2
      go_ret
      exact ⟨rfl, by rw [← HU.out]; exact HBU.out⟩
    · by_cases h2 : (4 : Int) < R.length
      · rw [chk_len HN.out (.inr (by omega))]
        go_enter Tryd.func45, Tryd.ntmps45
        go_wp2_with fail
        refine (hn _).mono ?_
        rintro e w' ⟨rfl, rfl⟩
        clear hn
        go_wp2
        go_ret
        exact ⟨rfl, by rw [← HU.out]; exact HBU.out⟩
      · obtain ⟨K, hK⟩ : ∃ K, K = chk s R f := ⟨_, rfl⟩
        rw [← hK]
        have HK := Lib.hid hK
        clear hK
        have hst := stF
        go_enter Tryd.func45, Tryd.ntmps45
        go_wp2_with fail
        refine (hn _).mono ?_
        rintro e w' ⟨rfl, rfl⟩
        clear hn
        rw [← HU.out]
        have zU : w.heap.size < U.heap.size := BS.out.lt
        have p0 := BS.out.cell 0
        have p1 := BS.out.cell 1
        have p2 := BS.out.cell 2
        simp at p0 p1 p2
        go_wp2_with fail
        obtain ⟨V, hV⟩ : ∃ V, V = U.alloc (.cells #[.bool true, .bool false, .bool false, .bool false] 102) := ⟨_, rfl⟩
        rw [← hV]
        have hn2 : 1 ≤ R.length := by omega
        have hn4 : R.length ≤ 4 := by omega
        have hnn : IntKind.i64.wrap ((R.length : Int) - 1) = (R.length : Int) - 1 := IntWalk.i64_in _ (by omega)
        have HBV : Hid (Below U.heap.size U V) := by rw [hV]; exact Lib.hid ((Below.refl _ _).alloc (Nat.le_refl _) _)
        have RV : Hid (Row V U.heap.size 102 4 (fun j => .bool (amB R R.length 0 j))) := by
          refine Lib.hid ⟨#[.bool true, .bool false, .bool false, .bool false], by rw [hV]; exact heap_alloc_new U _, rfl, fun j hj => ?_⟩
          show _ = some (Value.bool (amB R R.length 0 j))
          rw [amB_zero]
          rcases (by omega : j = 0 ∨ j = 1 ∨ j = 2 ∨ j = 3) with rfl | rfl | rfl | rfl <;> rfl
        have BSV : Hid (Blk V w.heap.size 27 #[.string s, .slice A R.length c, .int .i64 f]) := Lib.hid (BS.out.next HBV.out)
        have zV : U.heap.size < V.heap.size := RV.out.lt
        clear hV p0 p1 p2
        go_loopw [27] (fun i wr => ∃ t : Nat, t ≤ R.length ∧ i = .int .i64 t ∧ (∀ (j : Nat) (x : Rl), j < t → R[j]? = some x → ruleE R.length j x = 0) ∧ Below U.heap.size U wr ∧ Row wr U.heap.size 102 4 (fun j => .bool (amB R R.length t j))) (fun i _ => R.length - (intOf i).toNat)
        case atStart => exact ⟨0, by omega, rfl, fun j x hj => by omega, HBV.out, RV.out⟩
        case round =>
          obtain ⟨t, ht, rfl, hok, hb, hrow⟩ := hrel
          have HOK := Lib.hid hok
          have HB := Lib.hid hb
          have HROW := Lib.hid hrow
          have zr : U.heap.size < wr.heap.size := hrow.lt
          clear hok hb hrow
          by_cases hlt : t < R.length
          · have hlt2 : 0 ≤ (t : Int) ∧ (t : Int) < R.length := by omega
            obtain ⟨r, hr⟩ := gt_of hlt
            obtain ⟨g, o, rfl, hgU, hbz, c0, c1, c2, c3⟩ := (HR.out.below HB.out).at_ hr
            have hv := fun W => Sh.refValid_any r.s (HW.out t r hr) W
            have HBX : Hid (Below U.heap.size U (wr.alloc (.cells #[.float .f64 r.s, .int .i64 r.l, .int .i64 r.b, .int .i64 r.t] 63))) := Lib.hid (HB.out.alloc HB.out.size _)
            have HROX : Hid (Row (wr.alloc (.cells #[.float .f64 r.s, .int .i64 r.l, .int .i64 r.b, .int .i64 r.t] 63)) U.heap.size 102 4 (fun j => .bool (amB R R.length t j))) := Lib.hid (HROW.out.next ((Below.refl _ _).alloc (Nat.le_refl _) _))
            have e1 := ruleE_share (n := R.length) (b := t) (r := r)
            have e2 := ruleE_lim (n := R.length) (b := t) (r := r)
            have e3 := ruleE_tgt (n := R.length) (b := t) (r := r)
            have e4 := ruleE_yes (n := R.length) (b := t) (r := r)
            have hek := fun (h : ruleE R.length t r ≠ 0) => HK.out.trans (chk_rule (f := f) HN.out hn2 hn4 hr HOK.out h)
            have hnx : ruleE R.length t r = 0 → ∀ (j : Nat) (x : Rl), j < t + 1 → R[j]? = some x → ruleE R.length j x = 0 := fun h j x hj hx => by
              rcases (by omega : j < t ∨ j = t) with h5 | h5
              · exact HOK.out j x h5 hx
              · subst h5
                rw [hr] at hx
                injection hx with hx
                subst hx
                exact h
            have hlast : t + 1 = R.length ↔ ((t : Int) == (R.length : Int) - 1) = true := by simp; omega
            have hlim : limBad R.length t r ↔ (r.l < 0 ∨ 64 < r.l ∨ r.b < 0 ∨ 64 < r.b ∨ (t + 1 = R.length ∧ r.l ≠ 0)) := Iff.rfl
            have htg : tgtOk R.length t r ↔ (t + 1 = R.length ∧ r.t = t) ∨ (t + 1 ≠ R.length ∧ (t : Int) < r.t ∧ r.t < R.length) := by unfold tgtOk; split <;> omega
            have HST := Lib.hid (fun (h : t + 1 < R.length) (q : Nat) (hq : r.t = q) => amB_step hr h hq)
            generalize ruleE R.length t r = ez at *
            generalize r.s = xs at *
            generalize r.l = xl at *
            generalize r.b = xb at *
            obtain ⟨xt, hxt⟩ : ∃ x, x = r.t := ⟨_, rfl⟩
            rw [← hxt] at c3 HBX HROX htg HST
            clear hr hxt
            have E1 := Lib.hid e1
            have E2 := Lib.hid e2
            have E3 := Lib.hid e3
            have E4 := Lib.hid e4
            have HEK := Lib.hid hek
            have HNX := Lib.hid hnx
            have HLA := Lib.hid hlast
            have HLI := Lib.hid hlim
            have HTG := Lib.hid htg
            clear e1 e2 e3 e4 hek hnx hlast hlim htg
            rcases hokf : Sh.okF xs with _ | _
            · have EK : Hid ((6 : Int) = K) := Lib.hid (by have h := E1.out hokf; rw [HEK.out (by rw [h]; decide), h])
              rw [hokf] at hv
              clear hokf
              go_wp2_with fail
              refine (hv _).mono ?_
              rintro e w' ⟨rfl, rfl⟩
              clear hv
              go_wp2
              go_ret
              exact ⟨ret_i64 EK.out, below_step HBU.out (Nat.le_of_lt zU) HBX.out⟩
            · rw [hokf] at hv
              have HOF := Lib.hid hokf
              clear hokf
              have hlimK : Hid (limBad R.length t r → (9 : Int) = K) := Lib.hid fun hl => by have h := E2.out HOF.out hl; rw [HEK.out (by rw [h]; decide), h]
              have htgK : Hid (¬ limBad R.length t r → ¬ tgtOk R.length t r → (10 : Int) = K) := Lib.hid fun hl ht => by have h := E3.out HOF.out hl ht; rw [HEK.out (by rw [h]; decide), h]
              go_wp2_with fail
              refine (hv _).mono ?_
              rintro e w' ⟨rfl, rfl⟩
              clear hv
              by_cases l1 : xl < 0
              · have EK := Lib.hid (hlimK.out (HLI.out.2 (.inl l1)))
                go_wp2
                go_ret
                exact ⟨ret_i64 EK.out, below_step HBU.out (Nat.le_of_lt zU) HBX.out⟩
              · by_cases l2 : 64 < xl
                · have EK := Lib.hid (hlimK.out (HLI.out.2 (.inr (.inl l2))))
                  go_wp2
                  go_ret
                  exact ⟨ret_i64 EK.out, below_step HBU.out (Nat.le_of_lt zU) HBX.out⟩
                · by_cases l3 : xb < 0
                  · have EK := Lib.hid (hlimK.out (HLI.out.2 (.inr (.inr (.inl l3)))))
                    go_wp2
                    go_ret
                    exact ⟨ret_i64 EK.out, below_step HBU.out (Nat.le_of_lt zU) HBX.out⟩
                  · by_cases l4 : 64 < xb
                    · have EK := Lib.hid (hlimK.out (HLI.out.2 (.inr (.inr (.inr (.inl l4))))))
                      go_wp2
                      go_ret
                      exact ⟨ret_i64 EK.out, below_step HBU.out (Nat.le_of_lt zU) HBX.out⟩
                    · have LL := Lib.hid (show ¬ (xl < 0 ∨ 64 < xl ∨ xb < 0 ∨ 64 < xb) by omega)
                      rcases h3 : ((t : Int) == (R.length : Int) - 1) with _ | _
                      · have H3 : Hid (t + 1 ≠ R.length) := Lib.hid fun h => by have := HLA.out.1 h; rw [h3] at this; cases this
                        have NL : Hid (¬ limBad R.length t r) := Lib.hid fun h => by
                          have h5 := HLI.out.1 h
                          have h6 := LL.out
                          have h7 := H3.out
                          omega
                        by_cases t1 : xt ≤ (t : Int)
                        · have EK := Lib.hid (htgK.out NL.out (fun h => by have := HTG.out.1 h; have := H3.out; omega))
                          go_wp2
                          go_ret
                          exact ⟨ret_i64 EK.out, below_step HBU.out (Nat.le_of_lt zU) HBX.out⟩
                        · by_cases t2 : (R.length : Int) ≤ xt
                          · have EK := Lib.hid (htgK.out NL.out (fun h => by have := HTG.out.1 h; have := H3.out; omega))
                            go_wp2
                            go_ret
                            exact ⟨ret_i64 EK.out, below_step HBU.out (Nat.le_of_lt zU) HBX.out⟩
                          · obtain ⟨q, rfl⟩ := Int.eq_ofNat_of_zero_le (show 0 ≤ xt by omega)
                            have TG := Lib.hid (HTG.out.2 (.inr ⟨H3.out, by omega, by omega⟩))
                            have q4 : q < 4 := by omega
                            have q5 : 0 ≤ (q : Int) ∧ (q : Int) < 4 := by omega
                            have cq := HROW.out.cell q q4
                            have fq := HROW.out.free q
                            have RN := Lib.hid (((HROW.out.set_ q q4 (.bool true)).congr (f' := fun j => .bool (amB R R.length (t + 1) j)) (fun j _ => by
                              rw [HST.out (by have := H3.out; omega) q rfl j]
                              by_cases e : j = q
                              · simp only [if_pos e]
                              · simp only [if_neg e])).next ((Below.refl _ _).alloc (Nat.le_refl _) (.cells #[.float .f64 xs, .int .i64 xl, .int .i64 xb, .int .i64 (q : Int)] 63)))
                            have BN0 := HB.out.setCell (p := ⟨U.heap.size, q, none⟩) (Nat.le_refl _) (.bool true)
                            have BN := Lib.hid (BN0.alloc BN0.size (.cells #[.float .f64 xs, .int .i64 xl, .int .i64 xb, .int .i64 (q : Int)] 63))
                            clear BN0
                            go_wp2_with fail
                            exact ⟨⟨t + 1, by omega, by go_num, HNX.out (E4.out HOF.out NL.out TG.out), BN.out, RN.out⟩, by simp [intOf]; omega⟩
                      · have H3 : Hid (t + 1 = R.length) := Lib.hid (HLA.out.2 h3)
                        rcases l5 : (xl != 0) with _ | _
                        · have NL : Hid (¬ limBad R.length t r) := Lib.hid fun h => by
                            have h5 := HLI.out.1 h
                            have h6 := LL.out
                            simp at l5
                            omega
                          by_cases t1 : xt = (t : Int)
                          · have TG := Lib.hid (HTG.out.2 (.inl ⟨H3.out, t1⟩))
                            have t2 : (xt != (t : Int)) = false := by simpa using t1
                            have RN := Lib.hid (HROX.out.congr (f' := fun j => .bool (amB R R.length (t + 1) j)) (fun j _ => by rw [amB_last (by have := H3.out; omega)]))
                            clear t1
                            go_wp2_with fail
                            exact ⟨⟨t + 1, by omega, by go_num, HNX.out (E4.out HOF.out NL.out TG.out), HBX.out, RN.out⟩, by simp [intOf]; omega⟩
                          · have EK := Lib.hid (htgK.out NL.out (fun h => by have := HTG.out.1 h; have := H3.out; omega))
                            have t2 : (xt != (t : Int)) = true := by simpa using t1
                            go_wp2
                            go_ret
                            exact ⟨ret_i64 EK.out, below_step HBU.out (Nat.le_of_lt zU) HBX.out⟩
                        · have EK := Lib.hid (hlimK.out (HLI.out.2 (.inr (.inr (.inr (.inr ⟨H3.out, by simpa using l5⟩))))))
                          go_wp2
                          go_ret
                          exact ⟨ret_i64 EK.out, below_step HBU.out (Nat.le_of_lt zU) HBX.out⟩
          · have hlt2 : ¬ (t : Int) < R.length := by omega
            obtain rfl : t = R.length := by omega
            have h4 : ∀ (j : Nat) (x : Rl), R[j]? = some x → ruleE R.length j x = 0 := fun j x hx => HOK.out j x (gt_lt hx) hx
            have ek := HK.out.trans (chk_all (f := f) HN.out hn2 hn4 h4)
            have hls := lastS_ok hn2 h4
            have H4 := Lib.hid h4
            have EK := Lib.hid ek
            have HLS := Lib.hid hls
            have BSR := BS.out.next HB.out
            have p0 := BSR.cell 0
            have p1 := BSR.cell 1
            have p2 := BSR.cell 2
            simp at p0 p1 p2
            clear h4 ek hls BSR
            go_wp2_with fail
            go_loop [8] (fun i => ∃ k : Nat, k ≤ R.length ∧ i = .int .i64 k ∧ ∀ j, 1 ≤ j → j < k → aimB R j = true) (fun i => R.length - (intOf i).toNat)
            case atStart => exact ⟨0, by omega, rfl, fun j _ hj => by omega⟩
            case round =>
              obtain ⟨k, hk, rfl, hal⟩ := hrel
              have HAL := Lib.hid hal
              clear hal
              by_cases hkt : k < R.length
              · have hk2 : (k : Int) < R.length := by omega
                have hk3 : 0 ≤ (k : Int) ∧ (k : Int) < 4 := by omega
                have ck := HROW.out.cell k (by omega)
                rcases ha : amB R R.length R.length k with _ | _
                · rw [ha] at ck
                  have hno : Hid ((10 : Int) = K) := Lib.hid (by
                    have h0 : 1 ≤ k := by
                      rcases Nat.eq_zero_or_pos k with h | h
                      · have := (amB_iff R R.length R.length k).2 (.inl h)
                        rw [ha] at this; cases this
                      · exact h
                    rw [amB_end H4.out hkt h0] at ha
                    have := EK.out
                    rw [allB_no h0 hkt ha, if_pos rfl] at this
                    exact this.symm)
                  clear ha
                  go_wp2
                  go_ret
                  exact ⟨ret_i64 hno.out, below_step HBU.out (Nat.le_of_lt zU) HB.out⟩
                · rw [ha] at ck
                  have HA := Lib.hid ha
                  clear ha
                  go_wp2_with fail
                  exact ⟨⟨k + 1, by omega, by go_num, fun j h1 hj => by
                    rcases (by omega : j < k ∨ j = k) with h | h
                    · exact HAL.out j h1 h
                    · subst h
                      rw [← amB_end H4.out hkt h1]
                      exact HA.out⟩, by simp [intOf]; omega⟩
              · have hk2 : ¬ (k : Int) < R.length := by omega
                have ha := (allB_iff R).2 fun b h1 h2 => HAL.out b h1 (by omega)
                have ek := EK.out
                rw [ha, if_neg (by simp)] at ek
                obtain ⟨r, hr⟩ := gt_of (l := R) (j := R.length - 1) (by omega)
                obtain ⟨g, o, rfl, hgU, hbz, c0, _⟩ := (HR.out.below HB.out).at_ hr
                have hle := HLS.out
                rw [← lastS_is hr] at c0
                have hw : IntKind.i64.wrap ((R.length : Int) - 1) = ((R.length - 1 : Nat) : Int) := by rw [hnn]; omega
                have hj2 : 0 ≤ ((R.length - 1 : Nat) : Int) ∧ ((R.length - 1 : Nat) : Int) < R.length := by omega
                clear ha hr EK HLS hnn
                generalize lastS R = x at *
                generalize R.length - 1 = m at *
                by_cases h0 : x = 0
                · subst h0
                  have e0 : FloatKind.f64.format.order 0 0 = some .eq := Sh.fo_eq (by decide) (by decide) rfl
                  have hf : fullB 0 f = decide (1 ≤ f ∧ f ≤ 64) := rfl
                  by_cases f1 : f < 1
                  · rw [hf, decide_eq_false (by omega), if_pos rfl] at ek
                    have EK := Lib.hid ek.symm
                    clear ek
                    go_wp2
                    go_ret
                    exact ⟨ret_i64 EK.out, below_step HBU.out (Nat.le_of_lt zU) HB.out⟩
                  · by_cases f2 : 64 < f
                    · rw [hf, decide_eq_false (by omega), if_pos rfl] at ek
                      have EK := Lib.hid ek.symm
                      clear ek
                      go_wp2
                      go_ret
                      exact ⟨ret_i64 EK.out, below_step HBU.out (Nat.le_of_lt zU) HB.out⟩
                    · rw [hf, decide_eq_true (by omega), if_neg (by simp)] at ek
                      have EK := Lib.hid ek.symm
                      clear ek
                      go_wp2
                      go_ret
                      exact ⟨ret_i64 EK.out, below_step HBU.out (Nat.le_of_lt zU) HB.out⟩
                · have e0 := Sh.fo_zero (x := x) (by omega) hle
                  have hf : fullB x f = decide (f = 0) := by unfold fullB; rw [if_neg h0]
                  by_cases f1 : f = 0
                  · rw [hf, decide_eq_true f1, if_neg (by simp)] at ek
                    have EK := Lib.hid ek.symm
                    have f2 : (f != 0) = false := by simpa using f1
                    clear ek f1 hf
                    go_wp2
                    go_ret
                    exact ⟨ret_i64 EK.out, below_step HBU.out (Nat.le_of_lt zU) HB.out⟩
                  · rw [hf, decide_eq_false f1, if_pos rfl] at ek
                    have EK := Lib.hid ek.symm
                    have f2 : (f != 0) = true := by simpa using f1
                    clear ek f1 hf
                    go_wp2
                    go_ret
                    exact ⟨ret_i64 EK.out, below_step HBU.out (Nat.le_of_lt zU) HB.out⟩
end Go.Proofs.YtmhbbjbbckdlbaaDoor
