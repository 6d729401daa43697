/-
  The developers' reader: readRules.
-/
import Derived.Test.YtodnicaidmilkaaDoorNRul
namespace Go.Proofs.YtodnicaidmilkaaDoor
open Go.RowKit
set_option maxRecDepth 100000
set_option linter.unusedVariables false

theorem tCo_l2 : ({ data := #[44, 32] } : ByteArray) = tx tCo := by decide
/-- What readRules leaves. -/
def RlsO (w : World) (rd : Nat) (T K0 : List Nat) (e : Ending) (w' : World) : Prop :=
  ∃ (A : Option Addr) (c : Nat) (R : List Rl) (ok : Bool), e = .returned (.tuple #[.slice A R.length c, .bool ok]) ∧ RArr w' (Rng w.heap.size w'.heap.size) A c R ∧ RdO w' rd T ((drlsP 1025 K0).map (·.2)) ∧ (∀ y, drlsP 1025 K0 = some y → R = mkR y.1 ∧ ok = true) ∧ (drlsP 1025 K0 = none → ok = false) ∧ w.grownBy w' (some rd)
/-- What holds ahead of each rule. -/
def RlsI (w : World) (rd : Nat) (T K0 : List Nat) (v : Value) (wr : World) : Prop :=
  ∃ (P : List Pr) (K : List Nat), RdO wr rd T (some K) ∧ ROwn wr w.heap.size v (mkR P) ∧ P.length + K.length ≤ 1024 ∧ drlsP 1025 K0 = (drlsP (1025 - P.length) K).map (fun y => (P ++ y.1, y.2)) ∧ w.grownBy wr (some rd)
theorem rdO_pos {w : World} {rd : Nat} {T K : List Nat} (h : RdO w rd T (some K)) : T.length - posN13 w rd = K.length := by
  obtain ⟨k, h1, h2, h3⟩ := h
  rw [posN13_of h2, ← h3 K rfl, List.length_drop]
theorem drls_fall {n : Nat} {K : List Nat} (h : drulP K = none) : drlsP (n + 1) K = none := by unfold drlsP; rw [h]; rfl
theorem drls_last {n : Nat} {K : List Nat} {y : Pr × List Nat} (h : drulP K = some y) (h2 : fixP tCo y.2 = none) : drlsP (n + 1) K = some ([y.1], y.2) := by
  unfold drlsP
  rw [h, Option.bind_some]
  simp only [h2]
theorem drls_more {n : Nat} {K M : List Nat} {y : Pr × List Nat} (h : drulP K = some y) (h2 : fixP tCo y.2 = some M) : drlsP (n + 1) K = (drlsP n M).bind fun z => some (y.1 :: z.1, z.2) := by
  conv => lhs; unfold drlsP
  rw [h, Option.bind_some]
  simp only [h2]
theorem mkR_snoc (P : List Pr) (r : Pr) : mkR (P ++ [r]) = mkR P ++ [⟨Sh.pctF r.p, r.l, r.b, r.t⟩] := by simp [mkR]
theorem rowOwn_turn {w w' : World} {B rd : Nat} {v : Value} {R : List Rl} (h : ROwn w B v R) (hg : w.grownBy w' (some rd)) (hrd : rd < B) : ROwn w' B v R := h.keep fun g hb hl => hg.block g hl (fun e => by injection e with e; omega)
set_option maxHeartbeats 8000000 in
theorem rules13_any (rd : Nat) (T K0 : List Nat) (w : World) (hT : Byt T) (hl : T.length ≤ 1024) (h : RdO w rd T (some K0)) (hK : K0.length ≤ 1024) :
    Calls Tryd.prog 48 #[.pointer (some ⟨rd, 0, none⟩)] w (RlsO w rd T K0) := by
  obtain ⟨i0, hi0, hz0, hzz1, hzz2⟩ := info_parts rule_info
  have hrd := h.lt
  have lO := tCo_l2
  have hst := stF
  have HI := Lib.hid (show RlsI w rd T K0 (.slice none 0 0) w from ⟨[], K0, h, ROwn.nil _ _, by simpa using hK, by
    show drlsP 1025 K0 = (drlsP 1025 K0).map fun y => ([] ++ y.1, y.2)
    cases drlsP 1025 K0 <;> rfl, turn_below (Below.refl _ _)⟩)
  have HRU := Lib.hid (fun (K : List Nat) (W : World) h => ruleO_any rd T (some K) W hT hl h)
  have HTX := Lib.hid (fun (K : List Nat) (W : World) h => textO_any rd tCo T (some K) W byt_fix.2.2.2.2.1 hT hl h)
  clear h hK
  go_enter Tryd.func48, Tryd.ntmps48
  go_wp2_with fail
  go_loopw [4] (fun v wr => RlsI w rd T K0 v wr) (fun _ wr => T.length - posN13 wr rd)
  case atStart => exact HI.out
  case round =>
    obtain ⟨P, K, hr, ho, hlen, heq, hg⟩ := hrel
    have hc := Lib.hid (HRU.out K wr hr)
    have hpos := rdO_pos hr
    have HPOS := Lib.hid hpos
    have HO := Lib.hid ho
    have HEQ := Lib.hid heq
    have HG := Lib.hid hg
    clear hr ho heq hg hpos HI
    go_wp2_with fail
    refine hc.out.mono ?_
    rintro e W1 ⟨x, l, b, t, ok, rfl, hx, hr1, hs, hg1⟩
    have HR1 := Lib.hid hr1
    have HS := Lib.hid (hs K rfl)
    have HG1 := Lib.hid (turn_trans HG.out hg1)
    have HO1 := Lib.hid (rowOwn_turn HO.out hg1 hrd)
    have HBX : Hid (Below W1.heap.size W1 (W1.alloc (.cells #[.float .f64 x, .int .i64 l, .int .i64 b, .int .i64 t] 48))) := Lib.hid ((Below.refl _ _).alloc (Nat.le_refl _) _)
    have HBX2 : Hid (Below W1.heap.size W1 ((W1.alloc (.cells #[.float .f64 x, .int .i64 l, .int .i64 b, .int .i64 t] 48)).alloc (.cells #[.float .f64 x, .int .i64 l, .int .i64 b, .int .i64 t] 48))) := Lib.hid (HBX.out.alloc HBX.out.size _)
    clear hc hr1 hs hg1 HO HG
    rcases ok with _ | _
    · have hno : drulP K = none := by
        rcases e : drulP K with _ | y
        · rfl
        · have := (HS.out.1 y e).2.2.2.2
          cases this
      have HNO : Hid (drlsP 1025 K0 = none) := Lib.hid (by
        rw [HEQ.out, show 1025 - P.length = (1024 - P.length) + 1 by omega, drls_fall hno]
        rfl)
      clear hno
      go_wp2_with fail
      go_ret2
      refine ⟨none, 0, [], false, rfl, RArr.nil _ _, ?_, fun y hy => ?_, fun _ => rfl, turn_next HG1.out HBX.out⟩
      · rw [HNO.out]
        exact (HR1.out.next HBX.out).imp fun M hM => by cases hM
      · rw [HNO.out] at hy
        cases hy
    · obtain ⟨y, hy⟩ : ∃ y, drulP K = some y := by
        rcases e : drulP K with _ | y
        · have := HS.out.2 e
          cases this
        · exact ⟨y, rfl⟩
      obtain ⟨ex, el, eb, et, _⟩ := HS.out.1 y hy
      have HY := Lib.hid hy
      have HEL : Hid (mkR P ++ [⟨x, (l : Int), (b : Int), (t : Int)⟩] = mkR (P ++ [y.1])) := Lib.hid (by rw [mkR_snoc, ex, el, eb, et])
      have hml : (mkR P).length ≤ 1024 := by rw [mkR_length]; omega
      have HOX := Lib.hid (HO1.out.next HBX2.out)
      have HSZ := Lib.hid (Nat.le_trans HG1.out.size HBX2.out.size)
      clear hy ex el eb et
      obtain ⟨A0, c0, rfl, _⟩ := HO1.out.slice
      go_wp2_with (at_builtin; refine wpList_append_own _ rfl _ _ 22 rfl w.heap.size 48 i0 _ 4 32 Tryd.underlying22 hi0 hz0 hzz1 hzz2 rfl (by decide) (.slice A0 (mkR P).length c0) (mkR P).length (rulCells (mkR P)) rfl HOX.out ⟨W1.heap.size + 1, 0, none⟩ 1 1 [.float .f64 x, .int .i64 l, .int .i64 b, .int .i64 t] rfl rfl (new4 _ _ _ _ _ _ _ (by first | rfl | simp)) (by simp [Value.oneCell']) (by simp only [maxLen]; omega) (by omega) HSZ.out ?_)
      intro v1 w1 hown hgr _
      have HN1 : Hid (ROwn w1 w.heap.size v1 (mkR (P ++ [y.1]))) := Lib.hid (by
        rw [← HEL.out]
        unfold ROwn
        rw [List.length_append, rulCells_append]
        exact hown)
      have hlo := rowOwn_lo HO1.out
      have HG2 := Lib.hid (turn_row (turn_next HG1.out HBX2.out) hgr hlo)
      have hr2 : RdO w1 rd T (some y.2) := by
        obtain ⟨k, k1, k2, k3⟩ := HR1.out.next HBX2.out
        exact ⟨k, k1, Blk.turns k2 hgr (fun j e => by have := hlo j e; omega), fun M hM => k3 M (by rw [Option.bind_some, HY.out]; exact hM)⟩
      have hc := Lib.hid (HTX.out y.2 w1 hr2)
      clear hown hgr hlo hr2
      go_wp2_with fail
      refine hc.out.mono ?_
      rintro e W2 ⟨b2, rfl, hr3, hb3, hg3, hf3⟩
      have HG3 := Lib.hid (turn_trans HG2.out hg3)
      have HN3 := Lib.hid (rowOwn_turn HN1.out hg3 hrd)
      have HR3 := Lib.hid hr3
      have HB3 := Lib.hid (hb3 y.2 rfl)
      have HF3 := Lib.hid hf3
      clear hc hr3 hb3 hg3 hf3
      rcases b2 with _ | _
      · have hn : fixP tCo y.2 = none := by
          rcases e : fixP tCo y.2 with _ | M
          · rfl
          · have := HB3.out
            rw [e] at this
            cases this
        have HEND : Hid (drlsP 1025 K0 = some (P ++ [y.1], y.2)) := Lib.hid (by
          rw [HEQ.out, show 1025 - P.length = (1024 - P.length) + 1 by omega, drls_last HY.out hn]
          rfl)
        obtain ⟨A1, c1, rfl, hra⟩ := HN3.out.slice
        have HRA := Lib.hid hra
        have HF4 := Lib.hid (HF3.out rfl)
        clear hn hra HF3
        go_wp2_with fail
        go_ret2
        refine ⟨A1, c1, mkR (P ++ [y.1]), true, rfl, HRA.out, ?_, fun z hz => ?_, fun hz => ?_, HG3.out⟩
        · rw [HEND.out]
          exact HF4.out
        · rw [HEND.out] at hz
          injection hz with hz
          subst hz
          exact ⟨rfl, rfl⟩
        · rw [HEND.out] at hz
          cases hz
      · obtain ⟨M, hM⟩ : ∃ M, fixP tCo y.2 = some M := by
          rcases e : fixP tCo y.2 with _ | M
          · have := HB3.out
            rw [e] at this
            cases this
          · exact ⟨M, rfl⟩
        have hKl : K.length = (rulL y.1).length + (2 + M.length) := by
          obtain ⟨e1, _⟩ := drul_of (K := y.2) (r := y.1) HY.out
          rw [e1, fixP_of hM]
          simp [tCo]
          omega
        have hr4 : RdO W2 rd T (some M) := HR3.out.imp fun N hN => by rw [Option.bind_some, hM]; exact hN
        have hp4 := rdO_pos hr4
        have HNX : Hid (RlsI w rd T K0 v1 W2) := Lib.hid ⟨P ++ [y.1], M, hr4, HN3.out, by have := rulL_pos y.1; simp; omega, by
          rw [HEQ.out, show 1025 - P.length = (1025 - (P ++ [y.1]).length) + 1 by simp; omega, drls_more HY.out hM]
          cases drlsP (1025 - (P ++ [y.1]).length) M <;> simp, HG3.out⟩
        have HM : Hid (M.length < K.length) := Lib.hid (by omega)
        have HP4 := Lib.hid hp4
        clear hM hKl hr4 hp4
        go_wp2_with fail
        refine ⟨HNX.out, ?_⟩
        rw [HP4.out, HPOS.out]
        exact HM.out
end Go.Proofs.YtodnicaidmilkaaDoor
