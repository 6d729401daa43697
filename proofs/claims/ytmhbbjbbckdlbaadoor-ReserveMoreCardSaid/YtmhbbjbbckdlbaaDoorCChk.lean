/-
  checkRule, Check, Complete, Cap of package config.
-/
import Derived.Test.YtmhbbjbbckdlbaaDoorCRul
import Derived.Test.YtmhbbjbbckdlbaaDoorCNam
import Derived.BigQuiet
import Derived.Deep.QuietTactic
namespace Go.Proofs.YtmhbbjbbckdlbaaDoor
open Go.RowKit
set_option maxRecDepth 100000
set_option linter.unusedVariables false

theorem ruleE_share {n b : Nat} {r : Rl} (h : Sh.okF r.s = false) : ruleE n b r = 6 := by unfold ruleE; rw [if_pos h]
theorem ruleE_lim {n b : Nat} {r : Rl} (h : Sh.okF r.s = true) (h2 : limBad n b r) : ruleE n b r = 9 := by unfold ruleE; rw [if_neg (by rw [h]; simp), if_pos h2]
theorem ruleE_tgt {n b : Nat} {r : Rl} (h : Sh.okF r.s = true) (h2 : ¬ limBad n b r) (h3 : ¬ tgtOk n b r) : ruleE n b r = 10 := by unfold ruleE; rw [if_neg (by rw [h]; simp), if_neg h2, if_neg h3]
theorem ruleE_yes {n b : Nat} {r : Rl} (h : Sh.okF r.s = true) (h2 : ¬ limBad n b r) (h3 : tgtOk n b r) : ruleE n b r = 0 := by unfold ruleE; rw [if_neg (by rw [h]; simp), if_neg h2, if_pos h3]

set_option maxHeartbeats 2000000 in
theorem checkRule_any (A : Option Addr) (c : Nat) (R : List Rl) (k : Nat) (r : Rl) (w : World) (hR : RArr w (Lt w.heap.size) A c R) (hr : R[k]? = some r) (hx : r.s < 18446744073709551616) :
    Calls Tryd.prog 68 #[.slice A R.length c, .int .i64 k] w fun e w' => e = .returned (.int .i64 (ruleE R.length k r)) ∧ Below w.heap.size w w' := by
  have hm := hR.2.1
  have hm' := hR.1
  simp only [maxLen] at hm
  have hlt := gt_lt hr
  have hlt2 : 0 ≤ (k : Int) ∧ (k : Int) < R.length := by omega
  obtain ⟨g, o, rfl, _, hbz, c0, c1, c2, c3⟩ := hR.at_ hr
  have hw : IntKind.i64.wrap ((R.length : Int) - 1) = (R.length : Int) - 1 := IntWalk.i64_in _ (by omega)
  have hv := fun W => Sh.valid_any r.s hx W
  have hl := fun W => isCount_any r.l W
  have hb := fun W => isCount_any r.b W
  have ht := fun W => isTargetOf_any R.length k r W hlt
  have hst := stF
  have HB : Hid (Below w.heap.size w (w.alloc (.cells #[.float .f64 r.s, .int .i64 r.l, .int .i64 r.b, .int .i64 r.t] 63))) := Lib.hid ((Below.refl _ _).alloc (Nat.le_refl _) _)
  have e1 := ruleE_share (n := R.length) (b := k) (r := r)
  have e2 := ruleE_lim (n := R.length) (b := k) (r := r)
  have e3 := ruleE_tgt (n := R.length) (b := k) (r := r)
  have e4 := ruleE_yes (n := R.length) (b := k) (r := r)
  have hlim : limBad R.length k r ↔ ¬ (0 ≤ r.l ∧ r.l ≤ 64) ∨ ¬ (0 ≤ r.b ∧ r.b ≤ 64) ∨ (k + 1 = R.length ∧ r.l ≠ 0) := by unfold limBad; omega
  have hlast : k + 1 = R.length ↔ ((k : Int) == (R.length : Int) - 1) = true := by simp; omega
  generalize hez : ruleE R.length k r = ez at *
  clear hez hr hR
  generalize r.s = xs at *
  generalize r.l = xl at *
  generalize r.b = xb at *
  generalize r.t = xt at *
  rcases hok : Sh.okF xs with _ | _
  · have ez6 := e1 hok
    clear e1 e2 e3 e4 hlim hl hb ht hlast
    rw [hok] at hv
    rw [ez6]
    clear ez6 hok
    go_enter Tryd.func68, Tryd.ntmps68
    go_wp2_with fail
    refine (hv _).mono ?_
    rintro e w' ⟨rfl, rfl⟩
    clear hv
    go_wp2
    go_ret
    exact ⟨rfl, HB.out⟩
  · replace e2 := e2 hok
    replace e3 := e3 hok
    replace e4 := e4 hok
    clear e1
    rw [hok] at hv
    clear hok
    have E2 := Lib.hid e2
    have E3 := Lib.hid e3
    have E4 := Lib.hid e4
    have HL := Lib.hid hlim
    have HLA := Lib.hid hlast
    clear e2 e3 e4 hlim hlast
    by_cases h1 : 0 ≤ xl ∧ xl ≤ 64
    · rw [decide_eq_true h1] at hl
      have H1 := Lib.hid h1
      clear h1
      by_cases h2 : 0 ≤ xb ∧ xb ≤ 64
      · rw [decide_eq_true h2] at hb
        have H2 := Lib.hid h2
        clear h2
        rcases h3 : ((k : Int) == (R.length : Int) - 1) with _ | _
        · have H3 := Lib.hid h3
          have nb : Hid (¬ limBad R.length k r) := Lib.hid fun h => by
            rcases HL.out.1 h with h | h | h
            · exact h H1.out
            · exact h H2.out
            · have := HLA.out.1 h.1
              rw [H3.out] at this
              cases this
          by_cases h4 : tgtOk R.length k r
          · have ez0 := E4.out nb.out h4
            rw [decide_eq_true h4] at ht
            rw [ez0]
            clear ez0 h4
            go_enter Tryd.func68, Tryd.ntmps68
            go_wp2_with fail
            refine (hv _).mono ?_
            rintro e w' ⟨rfl, rfl⟩
            clear hv
            go_wp2_with fail
            refine (hl _).mono ?_
            rintro e w' ⟨rfl, rfl⟩
            clear hl
            go_wp2_with fail
            refine (hb _).mono ?_
            rintro e w' ⟨rfl, rfl⟩
            clear hb
            go_wp2_with fail
            refine (ht _).mono ?_
            rintro e w' ⟨rfl, rfl⟩
            clear ht
            go_wp2
            go_ret
            exact ⟨rfl, HB.out⟩
          · have ez0 := E3.out nb.out h4
            rw [decide_eq_false h4] at ht
            rw [ez0]
            clear ez0 h4
            go_enter Tryd.func68, Tryd.ntmps68
            go_wp2_with fail
            refine (hv _).mono ?_
            rintro e w' ⟨rfl, rfl⟩
            clear hv
            go_wp2_with fail
            refine (hl _).mono ?_
            rintro e w' ⟨rfl, rfl⟩
            clear hl
            go_wp2_with fail
            refine (hb _).mono ?_
            rintro e w' ⟨rfl, rfl⟩
            clear hb
            go_wp2_with fail
            refine (ht _).mono ?_
            rintro e w' ⟨rfl, rfl⟩
            clear ht
            go_wp2
            go_ret
            exact ⟨rfl, HB.out⟩
        · have H3 := Lib.hid h3
          rcases h5 : (xl != 0) with _ | _
          · have nb : Hid (¬ limBad R.length k r) := Lib.hid fun h => by
              rcases HL.out.1 h with h | h | h
              · exact h H1.out
              · exact h H2.out
              · have := h.2
                simp at h5
                exact this h5
            by_cases h4 : tgtOk R.length k r
            · have ez0 := E4.out nb.out h4
              rw [decide_eq_true h4] at ht
              rw [ez0]
              clear ez0 h4
              go_enter Tryd.func68, Tryd.ntmps68
              go_wp2_with fail
              refine (hv _).mono ?_
              rintro e w' ⟨rfl, rfl⟩
              clear hv
              go_wp2_with fail
              refine (hl _).mono ?_
              rintro e w' ⟨rfl, rfl⟩
              clear hl
              go_wp2_with fail
              refine (hb _).mono ?_
              rintro e w' ⟨rfl, rfl⟩
              clear hb
              go_wp2_with fail
              refine (ht _).mono ?_
              rintro e w' ⟨rfl, rfl⟩
              clear ht
              go_wp2
              go_ret
              exact ⟨rfl, HB.out⟩
            · have ez0 := E3.out nb.out h4
              rw [decide_eq_false h4] at ht
              rw [ez0]
              clear ez0 h4
              go_enter Tryd.func68, Tryd.ntmps68
              go_wp2_with fail
              refine (hv _).mono ?_
              rintro e w' ⟨rfl, rfl⟩
              clear hv
              go_wp2_with fail
              refine (hl _).mono ?_
              rintro e w' ⟨rfl, rfl⟩
              clear hl
              go_wp2_with fail
              refine (hb _).mono ?_
              rintro e w' ⟨rfl, rfl⟩
              clear hb
              go_wp2_with fail
              refine (ht _).mono ?_
              rintro e w' ⟨rfl, rfl⟩
              clear ht
              go_wp2
              go_ret
              exact ⟨rfl, HB.out⟩
          · have ez0 := E2.out (HL.out.2 (.inr (.inr ⟨HLA.out.2 H3.out, by simpa using h5⟩)))
            rw [ez0]
            clear ez0 ht
            go_enter Tryd.func68, Tryd.ntmps68
            go_wp2_with fail
            refine (hv _).mono ?_
            rintro e w' ⟨rfl, rfl⟩
            clear hv
            go_wp2_with fail
            refine (hl _).mono ?_
            rintro e w' ⟨rfl, rfl⟩
            clear hl
            go_wp2_with fail
            refine (hb _).mono ?_
            rintro e w' ⟨rfl, rfl⟩
            clear hb
            go_wp2
            go_ret
            exact ⟨rfl, HB.out⟩
      · have ez0 := E2.out (HL.out.2 (.inr (.inl h2)))
        rw [decide_eq_false h2] at hb
        rw [ez0]
        clear ez0 ht h2
        go_enter Tryd.func68, Tryd.ntmps68
        go_wp2_with fail
        refine (hv _).mono ?_
        rintro e w' ⟨rfl, rfl⟩
        clear hv
        go_wp2_with fail
        refine (hl _).mono ?_
        rintro e w' ⟨rfl, rfl⟩
        clear hl
        go_wp2_with fail
        refine (hb _).mono ?_
        rintro e w' ⟨rfl, rfl⟩
        clear hb
        go_wp2
        go_ret
        exact ⟨rfl, HB.out⟩
    · have ez0 := E2.out (HL.out.2 (.inl h1))
      rw [decide_eq_false h1] at hl
      rw [ez0]
      clear ez0 ht h1 hb
      go_enter Tryd.func68, Tryd.ntmps68
      go_wp2_with fail
      refine (hv _).mono ?_
      rintro e w' ⟨rfl, rfl⟩
      clear hv
      go_wp2_with fail
      refine (hl _).mono ?_
      rintro e w' ⟨rfl, rfl⟩
      clear hl
      go_wp2
      go_ret
      exact ⟨rfl, HB.out⟩

theorem below_step {B : Nat} {w w1 w2 : World} (h : Below B w w1) (hB : B ≤ w1.heap.size) (h2 : Below w1.heap.size w1 w2) : Below B w w2 := h.trans (h2.mono hB)
theorem chk_name {s : ByteArray} {R : List Rl} {f : Int} (h : nameB s = false) : chk s R f = 7 := by unfold chk; rw [if_pos h]
theorem chk_len {s : ByteArray} {R : List Rl} {f : Int} (h : nameB s = true) (h2 : R.length < 1 ∨ 4 < R.length) : chk s R f = 8 := by unfold chk; rw [if_neg (by rw [h]; simp), if_pos h2]
theorem chk_rule {s : ByteArray} {R : List Rl} {f : Int} {t : Nat} {r : Rl} (h : nameB s = true) (h2 : 1 ≤ R.length) (h3 : R.length ≤ 4) (hr : R[t]? = some r) (h4 : ∀ (j : Nat) (x : Rl), j < t → R[j]? = some x → ruleE R.length j x = 0) (h5 : ruleE R.length t r ≠ 0) :
    chk s R f = ruleE R.length t r := by
  have e := rulE_at R.length R 0 t r hr (fun j x hj hx => by rw [Nat.zero_add]; exact h4 j x hj hx) (by rw [Nat.zero_add]; exact h5)
  rw [Nat.zero_add] at e
  unfold chk
  rw [if_neg (by rw [h]; simp), if_neg (by omega), e, if_pos h5]
theorem chk_all {s : ByteArray} {R : List Rl} {f : Int} (h : nameB s = true) (h2 : 1 ≤ R.length) (h3 : R.length ≤ 4) (h4 : ∀ (j : Nat) (x : Rl), R[j]? = some x → ruleE R.length j x = 0) :
    chk s R f = if allB R = false then 10 else if fullB (lastS R) f = false then 9 else 0 := by
  have e := rulE_zero R.length R 0 (fun j x hx => by rw [Nat.zero_add]; exact h4 j x hx)
  unfold chk
  rw [if_neg (by rw [h]; simp), if_neg (by omega), e, if_neg (by simp)]
theorem okF_le {x : Nat} (h : Sh.okF x = true) : x ≤ 4607182418800017408 := of_decide_eq_true h
theorem lastS_ok {R : List Rl} (h2 : 1 ≤ R.length) (h4 : ∀ (j : Nat) (x : Rl), R[j]? = some x → ruleE R.length j x = 0) : lastS R ≤ 4607182418800017408 := by
  obtain ⟨r, hr⟩ := gt_of (l := R) (j := R.length - 1) (by omega)
  rw [lastS_is hr]
  exact okF_le (ruleE_ok (h4 _ r hr)).1

set_option maxHeartbeats 4000000 in
theorem check_any (s : ByteArray) (A : Option Addr) (c : Nat) (R : List Rl) (f : Int) (w : World) (hR : RArr w (Lt w.heap.size) A c R) (hW : WfR R) :
    Calls Tryd.prog 50 #[.agg #[.string s, .slice A R.length c, .int .i64 f]] w fun e w' => e = .returned (.int .i64 (chk s R f)) ∧ Below w.heap.size w w' := by
  have hm := hR.2.1
  have hm' := hR.1
  simp only [maxLen] at hm
  obtain ⟨U, hU⟩ : ∃ U, U = w.alloc (.cells #[.string s, .slice A R.length c, .int .i64 f] 27) := ⟨_, rfl⟩
  have BS := Lib.hid (show Blk U w.heap.size 27 #[.string s, .slice A R.length c, .int .i64 f] by rw [hU]; exact Blk.new _ _ _)
  have HBU : Hid (Below w.heap.size w U) := by rw [hU]; exact Lib.hid ((Below.refl _ _).alloc (Nat.le_refl _) _)
  have HU := Lib.hid hU
  have HR := Lib.hid (hR.next HBU.out)
  have HW := Lib.hid hW
  clear hR hU hW
  have hn := fun W => isName_any s W
  rcases hb : nameB s with _ | _
  · rw [hb] at hn
    rw [chk_name hb]
    clear hb
    go_enter Tryd.func50, Tryd.ntmps50
    go_wp2_with fail
    refine (hn _).mono ?_
    rintro e w' ⟨rfl, rfl⟩
    clear hn
    go_wp2
    go_ret
    exact ⟨rfl, by rw [← HU.out]; exact HBU.out⟩
  · rw [hb] at hn
    have HN := Lib.hid hb
    clear hb
    by_cases h1 : (R.length : Int) < 1
    · rw [chk_len HN.out (.inl (by omega))]
      go_enter Tryd.func50, Tryd.ntmps50
      go_wp2_with fail
      refine (hn _).mono ?_
      rintro e w' ⟨rfl, rfl⟩
      clear hn
      go_wp2
      go_ret
      exact ⟨rfl, by rw [← HU.out]; exact HBU.out⟩
    · by_cases h2 : (4 : Int) < R.length
      · rw [chk_len HN.out (.inr (by omega))]
        go_enter Tryd.func50, Tryd.ntmps50
        go_wp2_with fail
        refine (hn _).mono ?_
        rintro e w' ⟨rfl, rfl⟩
        clear hn
        go_wp2
        go_ret
        exact ⟨rfl, by rw [← HU.out]; exact HBU.out⟩
      · obtain ⟨K, hK⟩ : ∃ K, K = chk s R f := ⟨_, rfl⟩
        rw [← hK]
        have HK := Lib.hid hK
        clear hK
        go_enter Tryd.func50, Tryd.ntmps50
        go_wp2_with fail
        refine (hn _).mono ?_
        rintro e w' ⟨rfl, rfl⟩
        clear hn
        go_wp2_with fail
        rw [← HU.out]
        have zU : w.heap.size < U.heap.size := BS.out.lt
        go_loopw [24] (fun i wr => ∃ t : Nat, t ≤ R.length ∧ i = .int .i64 t ∧ (∀ (j : Nat) (x : Rl), j < t → R[j]? = some x → ruleE R.length j x = 0) ∧ Below U.heap.size U wr) (fun i _ => R.length - (intOf i).toNat)
        case atStart => exact ⟨0, by omega, rfl, fun j x hj => by omega, Below.refl _ _⟩
        case round =>
          obtain ⟨t, ht, rfl, hok, hb⟩ := hrel
          have HOK := Lib.hid hok
          have HB := Lib.hid hb
          have BSR := BS.out.next HB.out
          have p0 := BSR.cell 0
          have p1 := BSR.cell 1
          have p2 := BSR.cell 2
          simp at p0 p1 p2
          clear hok hb BSR
          by_cases hlt : t < R.length
          · have hlt2 : (t : Int) < R.length := by omega
            obtain ⟨r, hr⟩ := gt_of hlt
            have hc := fun hx => checkRule_any A c R t r wr (HR.out.next HB.out) hr hx
            replace hc := hc (HW.out t r hr)
            have HRR := Lib.hid hr
            clear hr
            by_cases he : ruleE R.length t r = 0
            · have HE := Lib.hid he
              rw [he] at hc
              clear he
              go_wp2_with fail
              refine hc.mono ?_
              rintro e w2 ⟨rfl, hb2⟩
              have HB2 : Hid (Below U.heap.size U w2) := Lib.hid (below_step HB.out HB.out.size hb2)
              clear hc hb2
              go_wp2
              exact ⟨⟨t + 1, by omega, by go_num, fun j x hj hx => by
                rcases (by omega : j < t ∨ j = t) with h | h
                · exact HOK.out j x h hx
                · subst h
                  rw [HRR.out] at hx
                  injection hx with hx
                  subst hx
                  exact HE.out, HB2.out⟩, by simp [intOf]; omega⟩
            · have ek := chk_rule (f := f) HN.out (by omega) (by omega) HRR.out HOK.out he
              have EK := Lib.hid (HK.out.trans ek).symm
              have he2 : (ruleE R.length t r != 0) = true := by simpa using he
              clear ek he
              generalize ruleE R.length t r = ez at *
              go_wp2_with fail
              refine hc.mono ?_
              rintro e w2 ⟨rfl, hb2⟩
              have HB2 : Hid (Below U.heap.size U w2) := Lib.hid (below_step HB.out HB.out.size hb2)
              clear hc hb2
              go_wp2
              go_ret
              exact ⟨ret_i64 EK.out, below_step HBU.out (Nat.le_of_lt zU) HB2.out⟩
          · have hlt2 : ¬ (t : Int) < R.length := by omega
            have h4 : ∀ (j : Nat) (x : Rl), R[j]? = some x → ruleE R.length j x = 0 := fun j x hx => HOK.out j x (by have := gt_lt hx; omega) hx
            have ek := chk_all (f := f) HN.out (by omega) (by omega) h4
            have hls := lastS_ok (by omega) h4
            have hc := areAll_any A c R wr (HR.out.next HB.out)
            have ek := HK.out.trans ek
            clear h4
            rcases ha : allB R with _ | _
            · rw [ha] at hc ek
              rw [if_pos rfl] at ek
              have EK := Lib.hid ek.symm
              clear ha ek
              go_wp2_with fail
              refine hc.mono ?_
              rintro e w2 ⟨rfl, hb2⟩
              have HB2 : Hid (Below U.heap.size U w2) := Lib.hid (below_step HB.out HB.out.size hb2)
              clear hc hb2
              go_wp2
              go_ret
              exact ⟨ret_i64 EK.out, below_step HBU.out (Nat.le_of_lt zU) HB2.out⟩
            · rw [ha] at hc ek
              rw [if_neg (by simp)] at ek
              have EK := Lib.hid ek.symm
              clear ha ek
              go_wp2_with fail
              refine hc.mono ?_
              rintro e w2 ⟨rfl, hb2⟩
              have HB2 : Hid (Below U.heap.size U w2) := Lib.hid (below_step HB.out HB.out.size hb2)
              have BSR := BS.out.next HB2.out
              clear hc hb2 p0 p1 p2
              have p0 := BSR.cell 0
              have p1 := BSR.cell 1
              have p2 := BSR.cell 2
              simp at p0 p1 p2
              clear BSR
              have hu := uncapped_any A c R w2 (HR.out.next HB2.out) (by omega) hls
              have hu := fun W (h : RArr W (Lt W.heap.size) A c R) => uncapped_any A c R W h (by omega) hls
              have HR2 := Lib.hid (HR.out.next HB2.out)
              have hf := fun W => isFull_any f (lastS R) W
              generalize lastS R = x at *
              generalize hd : decide (x = 0) = d at *
              rcases hfb : fullB x f with _ | _
              · rw [hfb] at hf EK
                rw [if_pos rfl] at EK
                clear hfb
                go_wp2_with fail
                go_quiet ((first | (go_at_call 51; exact Calls.quiet_of_same ((hu _ (HR2.out.next (below_drewN (Below.refl _ _) _))).mono fun _ _ h => ⟨h.1, h.2.symm⟩)) | (go_at_call 70; exact Calls.quiet_of_same ((hf _).mono fun _ _ h => ⟨h.1, h.2.symm⟩))))
                go_wp2
                go_ret
                exact ⟨ret_i64 EK.out, below_step HBU.out (Nat.le_of_lt zU) (below_drewN HB2.out _)⟩
              · rw [hfb] at hf EK
                rw [if_neg (by simp)] at EK
                clear hfb
                go_wp2_with fail
                go_quiet ((first | (go_at_call 51; exact Calls.quiet_of_same ((hu _ (HR2.out.next (below_drewN (Below.refl _ _) _))).mono fun _ _ h => ⟨h.1, h.2.symm⟩)) | (go_at_call 70; exact Calls.quiet_of_same ((hf _).mono fun _ _ h => ⟨h.1, h.2.symm⟩))))
                go_wp2
                go_ret
                exact ⟨ret_i64 EK.out, below_step HBU.out (Nat.le_of_lt zU) (below_drewN HB2.out _)⟩
end Go.Proofs.YtmhbbjbbckdlbaaDoor
