/-
  Merged: Fits.
-/
import Derived.Test.YtjkbjbikofindaaMRef
import Derived.Test.YtjkbjbikofindaaMPure
namespace Go.Proofs.Ytjkbjbikofindaa
open Go.RowKit
set_option maxRecDepth 100000
set_option linter.unusedVariables false

/-- What is known of an increment that fits. -/
def FitsP (k n nw : Nat) (F : Nat → Fr) (sq bt fi la wo : Int) : Prop :=
  0 ≤ sq ∧ sq ≤ 4294967295 ∧ 0 ≤ bt ∧ bt < 4 ∧ ∃ W : Nat, wo = W ∧ W ≤ nw ∧ ChainP F n fi la (ceilV W k) sq (bt * 4294967296 + sq) ∧ (W = 0 → fi = -1 ∧ la = -1)

/-- How many of the first frames have the owner o. -/
def cntO (F : Nat → Fr) (o : Int) : Nat → Nat
  | 0 => 0
  | t + 1 => cntO F o t + (if (F t).ow = o then 1 else 0)
theorem cntO_le (F : Nat → Fr) (o : Int) : ∀ t, cntO F o t ≤ t
  | 0 => Nat.le_refl _
  | t + 1 => by have := cntO_le F o t; simp only [cntO]; split <;> omega
/-- An increment fits a valid space: it has all frames of its owner. -/
def FitsQ (k n nw : Nat) (F : Nat → Fr) (sq bt fi la wo : Int) : Prop :=
  FitsP k n nw F sq bt fi la wo ∧ (0 < wo → (cntO F sq n : Int) = ceilV wo.toNat k)
def FitsX (k n nw : Nat) (F : Nat → Fr) (sq bt fi la wo : Int) (w : World) (e : Ending) (w' : World) : Prop :=
  ∃ b, e = .returned (.bool b) ∧ (b = true ↔ FitsQ k n nw F sq bt fi la wo) ∧ Below w.heap.size w w'
theorem no_fit {P : Prop} (h : ¬ P) : (false = true) ↔ P := ⟨fun e => absurd e (by decide), fun e => absurd e h⟩

def FitsOf (k n nw : Nat) (F : Nat → Fr) (sq bt fi la wo : Int) (w : World) (e : Ending) (w' : World) : Prop :=
  ∃ b, e = .returned (.bool b) ∧ (b = true → FitsP k n nw F sq bt fi la wo) ∧ Below w.heap.size w w'

theorem ceilV_zero (k : Nat) : ceilV 0 k = 0 := by
  unfold ceilV
  exact Nat.div_eq_of_lt (by have := Nat.two_pow_pos k; omega)
theorem ceilV_pos {W k : Nat} (h : 0 < W) : 0 < ceilV W k := by
  unfold ceilV
  exact Nat.div_pos (by omega) (Nat.two_pow_pos k)

theorem chain_mk {F : Nat → Fr} {n p m : Nat} {sq st : Int} (hv : FV F n) (hp : p < n) (h0 : (F p).ow = sq) (h1 : (F p).st = st) (he : iter F m p = -1) (hne : ∀ i, i < m → iter F i p ≠ -1) :
    0 < m ∧ ∀ la : Int, iter F (m - 1) p = la → ChainP F n p la m sq st := by
  have hm : 0 < m := by
    rcases m with _ | m
    · simp only [iter] at he; omega
    · omega
  refine ⟨hm, fun la hla => .inr ⟨hm, p, la.toNat, rfl, hp, ?_, ?_, ?_, ?_, h0, h1⟩⟩
  all_goals
    have hin := iter_in hv.inside hp (m - 1)
    have h2 := hne (m - 1) (by omega)
  · omega
  · omega
  · omega
  · rw [show m = (m - 1) + 1 by omega, iter_succ, if_neg h2, hla] at he
    exact he

theorem row_at {w : World} {base : Nat} {t : TypeId} {n : Nat} {v : Value} {xs : List Value} (h : w.ownsRow base t 1 v n xs) {j : Nat} (hj : j < n) :
    ∃ g cap, v = .slice (some ⟨g, 0, none⟩) n cap ∧ base ≤ g ∧ g < w.heap.size ∧ w.cell? ⟨g, j, none⟩ = xs[j]? := by
  obtain ⟨hl, h⟩ := h
  rcases h with ⟨rfl, rfl⟩ | ⟨g, cap, cur, rfl, hb, hg, hn, hm, hs, ht⟩
  · omega
  · refine ⟨g, cap, rfl, hb, blk_lt hg, ?_⟩
    rw [cell_row hg, ← ht, List.getElem?_take, if_pos (by omega)]
    simp

theorem chainList_get (F : Nat → Fr) (p m j : Nat) (h : j < m) : (chainList F p m)[j]? = some (.int .i64 (iter F j p)) := by
  simp [chainList, h]

set_option maxHeartbeats 4000000 in
theorem fits_main (k : Nat) (A A' : Option Addr) (nw c n c' : Nat) (F : Nat → Fr) (sq bt la : Int) (p W : Nat) (w : World) (hT : Tab w w.heap.size A' n c' F) (hn : n ≤ 64) (hv : FV F n) (hk : k ≤ 8) (hw : nw ≤ 16384)
    (hq : 0 ≤ sq ∧ sq ≤ 4294967295) (hbt : 0 ≤ bt ∧ bt < 4) (W0 : 0 < W) (hWn : W ≤ nw) (hp : p < n) (h0 : (F p).ow = sq) (h1 : (F p).st = bt * 4294967296 + sq) :
    Calls Try.prog 83 #[.agg #[.int .i64 k, .slice A nw c, .slice A' n c'], .agg #[.int .i64 sq, .int .i64 bt, .int .i64 p, .int .i64 la, .int .i64 W]] w (FitsX k n nw F sq bt p la W w) := by
  have HT := Lib.hid hT
  have HV := Lib.hid hv
  have HX0 := Lib.hid h0
  have HX1 := Lib.hid h1
  obtain ⟨b, o, rfl, hbb⟩ := hT.base_ (by omega)
  obtain ⟨_, c0, c1, c2⟩ := hT.cells p hp
  rw [h0] at c0
  rw [h1] at c1
  have t7' : ((W : Int) == 0) = false := by simp; omega
  have hpi : 0 ≤ (p : Int) ∧ (p : Int) < n := by omega
  have sm : 0 ≤ bt * 4294967296 ∧ bt * 4294967296 ≤ 12884901888 := by omega
  obtain ⟨V, hV⟩ : ∃ V, V = ((w.alloc (.cells #[.int .i64 k, .slice A nw c, .slice (some ⟨b, o, none⟩) n c'] 25)).alloc (.cells #[.int .i64 sq, .int .i64 bt, .int .i64 p, .int .i64 la, .int .i64 W] 51)).alloc (.cells #[.int .i64 sq, .int .i64 (bt * 4294967296 + sq), .int .i64 (F p).nx] 61) := ⟨_, rfl⟩
  have hBV : Below w.heap.size w V := by rw [hV]; exact (((Below.refl _ _).alloc (Nat.le_refl _) _).alloc (by simp) _).alloc (by simp; omega) _
  have BS : Blk V w.heap.size 25 #[.int .i64 k, .slice A nw c, .slice (some ⟨b, o, none⟩) n c'] := by rw [hV]; exact ((Blk.new _ _ _).alloc _).alloc _
  have BI : Blk V (w.heap.size + 1) 51 #[.int .i64 sq, .int .i64 bt, .int .i64 p, .int .i64 la, .int .i64 W] := by rw [hV]; exact (Blk.newAt _ _ _ _ (by simp)).alloc _
  have HBV := Lib.hid hBV
  have HVV := Lib.hid hV
  clear hT hv h0 h1 hBV hV
  go_enter Try.func83, Try.ntmps83
  go_wp2_with fail
  rw [← HVV.out]
  refine (chain_any k (.slice A nw c) _ n c' p F V (HT.out.next HBV.out) hn HV.out hp).mono ?_
  rintro e V1 ⟨m, v, rfl, hend, hne, hown, hb1⟩
  obtain ⟨Al, cl, rfl, _⟩ := row_slice hown
  have BS1 := BS.next hb1
  have BI1 := BI.next hb1
  have HBV1 : Hid (Below w.heap.size w V1) := below_next HBV.out (Nat.le_refl _) hb1
  have HEND := Lib.hid hend
  have HNE := Lib.hid hne
  have HOWN := Lib.hid hown
  obtain ⟨m0, hmk⟩ := chain_mk HV.out hp HX0.out HX1.out hend hne
  have HMK := Lib.hid hmk
  have p0 := BS1.cell 0
  have p1 := BS1.cell 1
  have p2 := BS1.cell 2
  simp at p0 p1 p2
  have q0 := BI1.cell 0
  simp at q0
  clear hend hne hown hb1 hmk c0 c1 c2
  go_wp2
  have mn : m ≤ n + 1 := by
    rcases Nat.lt_or_ge (n + 1) m with h | h
    · exact absurd (HV.out.2.2 p hp) (HNE.out (n + 1) h)
    · exact h
  obtain ⟨gl, capl, hAl, _, gl2, hcl⟩ := row_at HOWN.out (show m - 1 < m by omega)
  rw [chainList_get F p m (m - 1) (by omega)] at hcl
  injection hAl with hAl1 _ hAl2
  subst hAl1
  clear p0 p1 p2 q0
  go_loopw [7, 9, 92] (fun q _ i wr => ∃ t cnt : Nat, t ≤ n ∧ cnt ≤ t ∧ cnt = cntO F sq t ∧ i = .int .i64 t ∧ q = .int .i64 cnt ∧ Below V1.heap.size V1 wr) (fun _ _ i _ => n - (intOf i).toNat)
  case atStart => exact ⟨0, 0, by omega, by omega, rfl, rfl, rfl, Below.refl _ _⟩
  case round =>
    obtain ⟨t, cnt, ht, hct, hcn, rfl, rfl, hb⟩ := hrel
    have HCN := Lib.hid hcn
    clear hcn
    have BSR := BS1.next hb
    have BIR := BI1.next hb
    have HBR : Hid (Below w.heap.size w wr) := below_next HBV1.out (Nat.le_refl _) hb
    have HBR1 := Lib.hid hb
    have zs : w.heap.size < wr.heap.size := BSR.lt
    have zi : w.heap.size + 1 < wr.heap.size := BIR.lt
    have zl : gl < wr.heap.size := by have := hb.size; omega
    have cl' : wr.cell? ⟨gl, m - 1, none⟩ = some (.int .i64 (iter F (m - 1) p)) := (hb.cell (p := ⟨gl, m - 1, none⟩) gl2).trans hcl
    have p0 := BSR.cell 0
    have p1 := BSR.cell 1
    have p2 := BSR.cell 2
    simp at p0 p1 p2
    have q0 := BIR.cell 0
    have q1 := BIR.cell 1
    have q2 := BIR.cell 2
    have q3 := BIR.cell 3
    have q4 := BIR.cell 4
    simp at q0 q1 q2 q3 q4
    clear hb
    by_cases hlt : t < n
    · have hlt2 : 0 ≤ (t : Int) ∧ (t : Int) < n := by omega
      have HTR : Hid (Tab wr w.heap.size (some ⟨b, o, none⟩) n c' F) := HT.out.below HBR.out
      obtain ⟨_, d0, d1, d2⟩ := HTR.out.cells t hlt
      have bz : b < wr.heap.size := by omega
      obtain ⟨x, hx⟩ : ∃ x, x = (F t).ow := ⟨_, rfl⟩
      rw [← hx] at d0
      have HC1 := Lib.hid (show cntO F sq (t + 1) = cnt + (if x = sq then 1 else 0) by rw [HCN.out, hx]; rfl)
      have HBN : Hid (Below V1.heap.size V1 (wr.alloc (.cells #[.int .i64 x, .int .i64 (F t).st, .int .i64 (F t).nx] 61))) := HBR1.out.alloc HBR1.out.size _
      clear hx cl' p0 p1 p2 q1 q2 q3 q4
      by_cases hx0 : x = sq
      · subst hx0
        go_wp2
        exact ⟨⟨t + 1, cnt + 1, by omega, by omega, by rw [HC1.out, if_pos rfl], by go_num, by go_num, HBN.out⟩, by simp [intOf]; omega⟩
      · have hb1 : (x == sq) = false := by simpa using hx0
        have HX9 := Lib.hid hx0
        clear hx0
        go_wp2
        exact ⟨⟨t + 1, cnt, by omega, by omega, by rw [HC1.out, if_neg HX9.out]; rfl, by go_num, rfl, HBN.out⟩, by simp [intOf]; omega⟩
    · have hlt2 : ¬ (t : Int) < n := by omega
      go_wp2_with fail
      have s1 : IntKind.i64.wrap ((m : Int) - 1) = ((m - 1 : Nat) : Int) := by rw [IntWalk.i64_in _ (by omega)]; omega
      have s2 : 0 ≤ ((m - 1 : Nat) : Int) ∧ ((m - 1 : Nat) : Int) < m := by omega
      obtain ⟨L, hL⟩ : ∃ L, L = iter F (m - 1) p := ⟨_, rfl⟩
      rw [← hL] at cl'
      have HL := Lib.hid hL
      clear hL
      have hst : stB (bt * 4294967296 + sq) sq = true := by
        refine decide_eq_true ⟨hq.1, hq.2, ?_⟩
        rcases (show bt = 0 ∨ bt = 1 ∨ bt = 2 ∨ bt = 3 by omega) with h | h | h | h <;> subst h <;> omega
      have hcn : cnt = cntO F sq n := by rw [HCN.out, show t = n by omega]
      have hWt : ((W : Int)).toNat = W := by omega
      have fin : ∀ (R : Bool), (R = true ↔ m = ceilV W k ∧ m = cnt ∧ L = la) → (R = true ↔ FitsQ k n nw F sq bt p la W) := fun R h => by
        rw [h]
        constructor
        · rintro ⟨e1, e2, e3⟩
          refine ⟨⟨hq.1, hq.2, hbt.1, hbt.2, W, rfl, hWn, by rw [← e1]; exact HMK.out la (by rw [← HL.out, e3]), fun h => by omega⟩, fun _ => ?_⟩
          rw [hWt, ← hcn, ← e2, e1]
        · rintro ⟨⟨_, _, _, _, W', hW', _, hc, _⟩, h2⟩
          obtain rfl : W = W' := by omega
          have h3 := h2 (by omega)
          rw [hWt, ← hcn] at h3
          have hM := ceilV_pos (k := k) W0
          have h4 : LenP F p m := ⟨HEND.out, HNE.out⟩
          have h5 : LenP F p (ceilV W k) := ⟨hc.end_ hM, fun i hi he => by obtain ⟨q, hq1, _⟩ := hc.at_ HV.out hst hi; omega⟩
          have h6 := h4.uniq h5
          refine ⟨h6, by omega, ?_⟩
          rcases hc with ⟨h7, _⟩ | ⟨_, p', l, h7, _, h8, _, h9, _⟩
          · omega
          · rw [HL.out, h6, h7, h9, h8]
      have HFIN := Lib.hid fin
      clear fin hst hcn hWt
      have w1 : ((m : Int) == ((ceilV W k : Nat) : Int)) = decide (m = ceilV W k) := by rw [Bool.eq_iff_iff, beq_iff_eq, decide_eq_true_eq]; omega
      have x1 : (m == ceilV W k) = decide (m = ceilV W k) := by rw [Bool.eq_iff_iff, beq_iff_eq, decide_eq_true_eq]
      have x2 : (m == cnt) = decide (m = cnt) := by rw [Bool.eq_iff_iff, beq_iff_eq, decide_eq_true_eq]
      have w2 : ((m : Int) == (cnt : Int)) = decide (m = cnt) := by rw [Bool.eq_iff_iff, beq_iff_eq, decide_eq_true_eq]; omega
      have w3 : (L == la) = decide (L = la) := by rw [Bool.eq_iff_iff, beq_iff_eq, decide_eq_true_eq]
      rcases v1 : decide (m = ceilV W k) with _ | _
      · rw [v1] at w1 x1
        have V1H := Lib.hid v1
        clear w2 x2 w3
        refine wp_region_held_drew (S := (fun w' => w'.cell? ⟨w.heap.size, 0, none⟩ = some (.int .i64 k) ∧ w'.cell? ⟨w.heap.size, 1, none⟩ = some (.slice A nw c) ∧ w'.cell? ⟨w.heap.size, 2, none⟩ = some (.slice (some ⟨b, o, none⟩) n c') ∧ w'.cell? ⟨w.heap.size + 1, 0, none⟩ = some (.int .i64 sq) ∧ w'.cell? ⟨w.heap.size + 1, 1, none⟩ = some (.int .i64 bt) ∧ w'.cell? ⟨w.heap.size + 1, 2, none⟩ = some (.int .i64 p) ∧ w'.cell? ⟨w.heap.size + 1, 3, none⟩ = some (.int .i64 la) ∧ w'.cell? ⟨w.heap.size + 1, 4, none⟩ = some (.int .i64 W) ∧ w'.cell? ⟨gl, m - 1, none⟩ = some (.int .i64 L))) (by kernel_rfl) ?_ (fun hHeld => ?_)
        · exact ⟨p0, p1, p2, q0, q1, q2, q3, q4, cl'⟩
        (refine wpAnyH_take (i := 0) (v := ?_) rfl (by kernel_rfl) (by kernel_rfl) (by kernel_rfl) (fun _ _ _ h => h) (Or.inl ⟨by rfl, ?_⟩) (by assumption) ?_; rotate_left 1; (focus (intro w' hSw; (try dsimp only at hSw); go_simp; (try with_reducible rfl); done)); try simp only [Act.put, List.setIfInBounds_toArray, List.set_cons_zero, List.set_cons_succ, List.getElem_toArray, List.getElem_cons_zero])
        (refine wpAnyH_take (i := 1) (v := ?_) rfl (by kernel_rfl) (by kernel_rfl) (by kernel_rfl) (fun _ _ _ h => h) (Or.inl ⟨by rfl, ?_⟩) (by assumption) ?_; rotate_left 1; (focus (intro w' hSw; (try dsimp only at hSw); go_simp; (try with_reducible rfl); done)); try simp only [Act.put, List.setIfInBounds_toArray, List.set_cons_zero, List.set_cons_succ, List.getElem_toArray, List.getElem_cons_zero, List.getElem_cons_succ])
        (refine wpAnyH_take (i := 2) (v := ?_) rfl (by kernel_rfl) (by kernel_rfl) (by kernel_rfl) (fun _ _ _ h => h) (Or.inl ⟨by rfl, ?_⟩) (by assumption) ?_; rotate_left 1; (focus (intro w' hSw; (try dsimp only at hSw); go_simp; (try with_reducible rfl); done)); try simp only [Act.put, List.setIfInBounds_toArray, List.set_cons_zero, List.set_cons_succ, List.getElem_toArray, List.getElem_cons_zero, List.getElem_cons_succ])
        (refine wpAnyH_take (i := 3) (v := ?_) rfl (by kernel_rfl) (by kernel_rfl) (by kernel_rfl) (fun _ _ _ h => h) (Or.inl ⟨by rfl, ?_⟩) (by assumption) ?_; rotate_left 1; (focus (intro w' hSw; (try dsimp only at hSw); go_simp; (try with_reducible rfl); done)); try simp only [Act.put, List.setIfInBounds_toArray, List.set_cons_zero, List.set_cons_succ, List.getElem_toArray, List.getElem_cons_zero, List.getElem_cons_succ])
        refine wpAnyH_ready (rs := [4]) (by kernel_rfl) (by simp) ?_
        refine AllReadyH.cons rfl (fun K hK => ?_) AllReadyH.nil
        go_simp
        go_at_call 92
        refine (frames_any k W (.slice A nw c) (.slice (some ⟨b, o, none⟩) n c') sq bt p la _ (by omega) hk).mono ?_
        rintro e v5 ⟨rfl, hb1⟩
        go_wp2_with fail
        refine hK.out _ _ ⟨(hb1.cell (p := ⟨_, _, none⟩) zs).trans p0, (hb1.cell (p := ⟨_, _, none⟩) zs).trans p1, (hb1.cell (p := ⟨_, _, none⟩) zs).trans p2, (hb1.cell (p := ⟨_, _, none⟩) zi).trans q0, (hb1.cell (p := ⟨_, _, none⟩) zi).trans q1, (hb1.cell (p := ⟨_, _, none⟩) zi).trans q2, (hb1.cell (p := ⟨_, _, none⟩) zi).trans q3, (hb1.cell (p := ⟨_, _, none⟩) zi).trans q4, (hb1.cell (p := ⟨_, _, none⟩) zl).trans cl'⟩ (fun hHeld2 => ?_)
        clear hK K hHeld
        try simp only [Act.put, List.setIfInBounds_toArray, List.set_cons_zero, List.set_cons_succ, List.getElem_toArray, List.getElem_cons_zero, List.getElem_cons_succ]
        (refine wpAnyH_take (i := 5) (v := ?_) rfl (by kernel_rfl) (by kernel_rfl) (by kernel_rfl) (fun _ _ _ h => h) (Or.inl ⟨by rfl, ?_⟩) (by assumption) ?_; rotate_left 1; (focus (intro w' hSw; (try dsimp only at hSw); go_simp; (try with_reducible rfl); done)); try simp only [Act.put, List.setIfInBounds_toArray, List.set_cons_zero, List.set_cons_succ, List.getElem_toArray, List.getElem_cons_zero, List.getElem_cons_succ])
        (refine wpAnyH_take (i := 6) (v := ?_) rfl (by kernel_rfl) (by kernel_rfl) (by kernel_rfl) (fun _ _ _ h => h) (Or.inl ⟨by rfl, ?_⟩) (by assumption) ?_; rotate_left 1; (focus (intro w' hSw; (try dsimp only at hSw); go_simp; (try with_reducible rfl); done)); try simp only [Act.put, List.setIfInBounds_toArray, List.set_cons_zero, List.set_cons_succ, List.getElem_toArray, List.getElem_cons_zero, List.getElem_cons_succ])
        (refine wpAnyH_take (i := 7) (v := undef) rfl (by kernel_rfl) (by kernel_rfl) (by kernel_rfl) (fun _ _ _ h => h) (Or.inr ⟨by rfl, rfl⟩) (by assumption) ?_; try simp only [Act.put, List.setIfInBounds_toArray, List.set_cons_zero, List.set_cons_succ, List.getElem_toArray, List.getElem_cons_zero, List.getElem_cons_succ])
        (refine wpAnyH_take (i := 8) (v := undef) rfl (by kernel_rfl) (by kernel_rfl) (by kernel_rfl) (fun _ _ _ h => h) (Or.inr ⟨by rfl, rfl⟩) (by assumption) ?_; try simp only [Act.put, List.setIfInBounds_toArray, List.set_cons_zero, List.set_cons_succ, List.getElem_toArray, List.getElem_cons_zero, List.getElem_cons_succ])
        (refine wpAnyH_take (i := 9) (v := undef) rfl (by kernel_rfl) (by kernel_rfl) (by kernel_rfl) (fun _ _ _ h => h) (Or.inr ⟨by rfl, rfl⟩) (by assumption) ?_; try simp only [Act.put, List.setIfInBounds_toArray, List.set_cons_zero, List.set_cons_succ, List.getElem_toArray, List.getElem_cons_zero, List.getElem_cons_succ])
        (refine wpAnyH_take (i := 10) (v := undef) rfl (by kernel_rfl) (by kernel_rfl) (by kernel_rfl) (fun _ _ _ h => h) (Or.inr ⟨by rfl, rfl⟩) (by assumption) ?_; try simp only [Act.put, List.setIfInBounds_toArray, List.set_cons_zero, List.set_cons_succ, List.getElem_toArray, List.getElem_cons_zero, List.getElem_cons_succ])
        (refine wpAnyH_take (i := 11) (v := ?_) rfl (by kernel_rfl) (by kernel_rfl) (by kernel_rfl) (fun _ _ _ h => h) (Or.inl ⟨by rfl, ?_⟩) (by assumption) ?_; rotate_left 1; (focus (intro w' hSw; (try dsimp only at hSw); go_simp; (try with_reducible rfl); done)); try simp only [Act.put, List.setIfInBounds_toArray, List.set_cons_zero, List.set_cons_succ, List.getElem_toArray, List.getElem_cons_zero, List.getElem_cons_succ])
        (refine wpAnyH_take (i := 12) (v := ?_) rfl (by kernel_rfl) (by kernel_rfl) (by kernel_rfl) (fun _ _ _ h => h) (Or.inl ⟨by rfl, ?_⟩) (by assumption) ?_; rotate_left 1; (focus (intro w' hSw; (try dsimp only at hSw); go_simp; (try with_reducible rfl); done)); try simp only [Act.put, List.setIfInBounds_toArray, List.set_cons_zero, List.set_cons_succ, List.getElem_toArray, List.getElem_cons_zero, List.getElem_cons_succ])
        (refine wpAnyH_take (i := 13) (v := undef) rfl (by kernel_rfl) (by kernel_rfl) (by kernel_rfl) (fun _ _ _ h => h) (Or.inr ⟨by rfl, rfl⟩) (by assumption) ?_; try simp only [Act.put, List.setIfInBounds_toArray, List.set_cons_zero, List.set_cons_succ, List.getElem_toArray, List.getElem_cons_zero, List.getElem_cons_succ])
        (refine wpAnyH_take (i := 14) (v := undef) rfl (by kernel_rfl) (by kernel_rfl) (by kernel_rfl) (fun _ _ _ h => h) (Or.inr ⟨by rfl, rfl⟩) (by assumption) ?_; try simp only [Act.put, List.setIfInBounds_toArray, List.set_cons_zero, List.set_cons_succ, List.getElem_toArray, List.getElem_cons_zero, List.getElem_cons_succ])
        (refine wpAnyH_take (i := 15) (v := undef) rfl (by kernel_rfl) (by kernel_rfl) (by kernel_rfl) (fun _ _ _ h => h) (Or.inr ⟨by rfl, rfl⟩) (by assumption) ?_; try simp only [Act.put, List.setIfInBounds_toArray, List.set_cons_zero, List.set_cons_succ, List.getElem_toArray, List.getElem_cons_zero, List.getElem_cons_succ])
        (refine wpAnyH_take (i := 16) (v := undef) rfl (by kernel_rfl) (by kernel_rfl) (by kernel_rfl) (fun _ _ _ h => h) (Or.inr ⟨by rfl, rfl⟩) (by assumption) ?_; try simp only [Act.put, List.setIfInBounds_toArray, List.set_cons_zero, List.set_cons_succ, List.getElem_toArray, List.getElem_cons_zero, List.getElem_cons_succ])
        (refine wpAnyH_take (i := 17) (v := undef) rfl (by kernel_rfl) (by kernel_rfl) (by kernel_rfl) (fun _ _ _ h => h) (Or.inr ⟨by rfl, rfl⟩) (by assumption) ?_; try simp only [Act.put, List.setIfInBounds_toArray, List.set_cons_zero, List.set_cons_succ, List.getElem_toArray, List.getElem_cons_zero, List.getElem_cons_succ])
        (refine wpAnyH_take (i := 18) (v := undef) rfl (by kernel_rfl) (by kernel_rfl) (by kernel_rfl) (fun _ _ _ h => h) (Or.inr ⟨by rfl, rfl⟩) (by assumption) ?_; try simp only [Act.put, List.setIfInBounds_toArray, List.set_cons_zero, List.set_cons_succ, List.getElem_toArray, List.getElem_cons_zero, List.getElem_cons_succ])
        (refine wpAnyH_take (i := 19) (v := undef) rfl (by kernel_rfl) (by kernel_rfl) (by kernel_rfl) (fun _ _ _ h => h) (Or.inr ⟨by rfl, rfl⟩) (by assumption) ?_; try simp only [Act.put, List.setIfInBounds_toArray, List.set_cons_zero, List.set_cons_succ, List.getElem_toArray, List.getElem_cons_zero, List.getElem_cons_succ])
        (refine wpAnyH_take (i := 20) (v := undef) rfl (by kernel_rfl) (by kernel_rfl) (by kernel_rfl) (fun _ _ _ h => h) (Or.inr ⟨by rfl, rfl⟩) (by assumption) ?_; try simp only [Act.put, List.setIfInBounds_toArray, List.set_cons_zero, List.set_cons_succ, List.getElem_toArray, List.getElem_cons_zero, List.getElem_cons_succ])
        (refine wpAnyH_take (i := 21) (v := undef) rfl (by kernel_rfl) (by kernel_rfl) (by kernel_rfl) (fun _ _ _ h => h) (Or.inr ⟨by rfl, rfl⟩) (by assumption) ?_; try simp only [Act.put, List.setIfInBounds_toArray, List.set_cons_zero, List.set_cons_succ, List.getElem_toArray, List.getElem_cons_zero, List.getElem_cons_succ])
        (refine wpAnyH_take (i := 22) (v := ?_) rfl (by kernel_rfl) (by kernel_rfl) (by kernel_rfl) (fun _ _ _ h => h) (Or.inl ⟨by rfl, ?_⟩) (by assumption) ?_; rotate_left 1; (focus (intro w' hSw; (try dsimp only at hSw); go_simp; (try with_reducible rfl); done)); try simp only [Act.put, List.setIfInBounds_toArray, List.set_cons_zero, List.set_cons_succ, List.getElem_toArray, List.getElem_cons_zero, List.getElem_cons_succ])
        (refine wpAnyH_take (i := 23) (v := ?_) rfl (by kernel_rfl) (by kernel_rfl) (by kernel_rfl) (fun _ _ _ h => h) (Or.inl ⟨by rfl, ?_⟩) (by assumption) ?_; rotate_left 1; (focus (intro w' hSw; (try dsimp only at hSw); go_simp; (try with_reducible rfl); done)); try simp only [Act.put, List.setIfInBounds_toArray, List.set_cons_zero, List.set_cons_succ, List.getElem_toArray, List.getElem_cons_zero, List.getElem_cons_succ])
        refine wpAnyH_done (by kernel_rfl) ?_ _
        have HB1 := Lib.hid hb1
        clear hb1
        go_wp2
        go_ret
        exact ⟨_, rfl, HFIN.out _ (no_fit fun h => of_decide_eq_false V1H.out h.1), below_next HBR.out.drew (Nat.le_refl _) HB1.out⟩
      · rw [v1] at w1 x1
        have V1H := Lib.hid v1
        rcases v2 : decide (m = cnt) with _ | _
        · rw [v2] at w2 x2
          have V2H := Lib.hid v2
          clear w3
          refine wp_region_held_drew (S := (fun w' => w'.cell? ⟨w.heap.size, 0, none⟩ = some (.int .i64 k) ∧ w'.cell? ⟨w.heap.size, 1, none⟩ = some (.slice A nw c) ∧ w'.cell? ⟨w.heap.size, 2, none⟩ = some (.slice (some ⟨b, o, none⟩) n c') ∧ w'.cell? ⟨w.heap.size + 1, 0, none⟩ = some (.int .i64 sq) ∧ w'.cell? ⟨w.heap.size + 1, 1, none⟩ = some (.int .i64 bt) ∧ w'.cell? ⟨w.heap.size + 1, 2, none⟩ = some (.int .i64 p) ∧ w'.cell? ⟨w.heap.size + 1, 3, none⟩ = some (.int .i64 la) ∧ w'.cell? ⟨w.heap.size + 1, 4, none⟩ = some (.int .i64 W) ∧ w'.cell? ⟨gl, m - 1, none⟩ = some (.int .i64 L))) (by kernel_rfl) ?_ (fun hHeld => ?_)
          · exact ⟨p0, p1, p2, q0, q1, q2, q3, q4, cl'⟩
          (refine wpAnyH_take (i := 0) (v := ?_) rfl (by kernel_rfl) (by kernel_rfl) (by kernel_rfl) (fun _ _ _ h => h) (Or.inl ⟨by rfl, ?_⟩) (by assumption) ?_; rotate_left 1; (focus (intro w' hSw; (try dsimp only at hSw); go_simp; (try with_reducible rfl); done)); try simp only [Act.put, List.setIfInBounds_toArray, List.set_cons_zero, List.set_cons_succ, List.getElem_toArray, List.getElem_cons_zero])
          (refine wpAnyH_take (i := 1) (v := ?_) rfl (by kernel_rfl) (by kernel_rfl) (by kernel_rfl) (fun _ _ _ h => h) (Or.inl ⟨by rfl, ?_⟩) (by assumption) ?_; rotate_left 1; (focus (intro w' hSw; (try dsimp only at hSw); go_simp; (try with_reducible rfl); done)); try simp only [Act.put, List.setIfInBounds_toArray, List.set_cons_zero, List.set_cons_succ, List.getElem_toArray, List.getElem_cons_zero, List.getElem_cons_succ])
          (refine wpAnyH_take (i := 2) (v := ?_) rfl (by kernel_rfl) (by kernel_rfl) (by kernel_rfl) (fun _ _ _ h => h) (Or.inl ⟨by rfl, ?_⟩) (by assumption) ?_; rotate_left 1; (focus (intro w' hSw; (try dsimp only at hSw); go_simp; (try with_reducible rfl); done)); try simp only [Act.put, List.setIfInBounds_toArray, List.set_cons_zero, List.set_cons_succ, List.getElem_toArray, List.getElem_cons_zero, List.getElem_cons_succ])
          (refine wpAnyH_take (i := 3) (v := ?_) rfl (by kernel_rfl) (by kernel_rfl) (by kernel_rfl) (fun _ _ _ h => h) (Or.inl ⟨by rfl, ?_⟩) (by assumption) ?_; rotate_left 1; (focus (intro w' hSw; (try dsimp only at hSw); go_simp; (try with_reducible rfl); done)); try simp only [Act.put, List.setIfInBounds_toArray, List.set_cons_zero, List.set_cons_succ, List.getElem_toArray, List.getElem_cons_zero, List.getElem_cons_succ])
          refine wpAnyH_ready (rs := [4]) (by kernel_rfl) (by simp) ?_
          refine AllReadyH.cons rfl (fun K hK => ?_) AllReadyH.nil
          go_simp
          go_at_call 92
          refine (frames_any k W (.slice A nw c) (.slice (some ⟨b, o, none⟩) n c') sq bt p la _ (by omega) hk).mono ?_
          rintro e v5 ⟨rfl, hb1⟩
          go_wp2_with fail
          refine hK.out _ _ ⟨(hb1.cell (p := ⟨_, _, none⟩) zs).trans p0, (hb1.cell (p := ⟨_, _, none⟩) zs).trans p1, (hb1.cell (p := ⟨_, _, none⟩) zs).trans p2, (hb1.cell (p := ⟨_, _, none⟩) zi).trans q0, (hb1.cell (p := ⟨_, _, none⟩) zi).trans q1, (hb1.cell (p := ⟨_, _, none⟩) zi).trans q2, (hb1.cell (p := ⟨_, _, none⟩) zi).trans q3, (hb1.cell (p := ⟨_, _, none⟩) zi).trans q4, (hb1.cell (p := ⟨_, _, none⟩) zl).trans cl'⟩ (fun hHeld2 => ?_)
          clear hK K hHeld
          try simp only [Act.put, List.setIfInBounds_toArray, List.set_cons_zero, List.set_cons_succ, List.getElem_toArray, List.getElem_cons_zero, List.getElem_cons_succ]
          (refine wpAnyH_take (i := 5) (v := ?_) rfl (by kernel_rfl) (by kernel_rfl) (by kernel_rfl) (fun _ _ _ h => h) (Or.inl ⟨by rfl, ?_⟩) (by assumption) ?_; rotate_left 1; (focus (intro w' hSw; (try dsimp only at hSw); go_simp; (try with_reducible rfl); done)); try simp only [Act.put, List.setIfInBounds_toArray, List.set_cons_zero, List.set_cons_succ, List.getElem_toArray, List.getElem_cons_zero, List.getElem_cons_succ])
          (refine wpAnyH_take (i := 6) (v := ?_) rfl (by kernel_rfl) (by kernel_rfl) (by kernel_rfl) (fun _ _ _ h => h) (Or.inl ⟨by rfl, ?_⟩) (by assumption) ?_; rotate_left 1; (focus (intro w' hSw; (try dsimp only at hSw); go_simp; (try with_reducible rfl); done)); try simp only [Act.put, List.setIfInBounds_toArray, List.set_cons_zero, List.set_cons_succ, List.getElem_toArray, List.getElem_cons_zero, List.getElem_cons_succ])
          (refine wpAnyH_take (i := 7) (v := ?_) rfl (by kernel_rfl) (by kernel_rfl) (by kernel_rfl) (fun _ _ _ h => h) (Or.inl ⟨by rfl, ?_⟩) (by assumption) ?_; rotate_left 1; (focus (intro w' hSw; (try dsimp only at hSw); go_simp; (try with_reducible rfl); done)); try simp only [Act.put, List.setIfInBounds_toArray, List.set_cons_zero, List.set_cons_succ, List.getElem_toArray, List.getElem_cons_zero, List.getElem_cons_succ])
          (refine wpAnyH_take (i := 8) (v := ?_) rfl (by kernel_rfl) (by kernel_rfl) (by kernel_rfl) (fun _ _ _ h => h) (Or.inl ⟨by rfl, ?_⟩) (by assumption) ?_; rotate_left 1; (focus (intro w' hSw; (try dsimp only at hSw); go_simp; (try with_reducible rfl); done)); try simp only [Act.put, List.setIfInBounds_toArray, List.set_cons_zero, List.set_cons_succ, List.getElem_toArray, List.getElem_cons_zero, List.getElem_cons_succ])
          (refine wpAnyH_take (i := 9) (v := ?_) rfl (by kernel_rfl) (by kernel_rfl) (by kernel_rfl) (fun _ _ _ h => h) (Or.inl ⟨by rfl, ?_⟩) (by assumption) ?_; rotate_left 1; (focus (intro w' hSw; (try dsimp only at hSw); go_simp; (try with_reducible rfl); done)); try simp only [Act.put, List.setIfInBounds_toArray, List.set_cons_zero, List.set_cons_succ, List.getElem_toArray, List.getElem_cons_zero, List.getElem_cons_succ])
          (refine wpAnyH_take (i := 10) (v := ?_) rfl (by kernel_rfl) (by kernel_rfl) (by kernel_rfl) (fun _ _ _ h => h) (Or.inl ⟨by rfl, ?_⟩) (by assumption) ?_; rotate_left 1; (focus (intro w' hSw; (try dsimp only at hSw); go_simp; (try with_reducible rfl); done)); try simp only [Act.put, List.setIfInBounds_toArray, List.set_cons_zero, List.set_cons_succ, List.getElem_toArray, List.getElem_cons_zero, List.getElem_cons_succ])
          (refine wpAnyH_take (i := 11) (v := ?_) rfl (by kernel_rfl) (by kernel_rfl) (by kernel_rfl) (fun _ _ _ h => h) (Or.inl ⟨by rfl, ?_⟩) (by assumption) ?_; rotate_left 1; (focus (intro w' hSw; (try dsimp only at hSw); go_simp; (try with_reducible rfl); done)); try simp only [Act.put, List.setIfInBounds_toArray, List.set_cons_zero, List.set_cons_succ, List.getElem_toArray, List.getElem_cons_zero, List.getElem_cons_succ])
          (refine wpAnyH_take (i := 12) (v := ?_) rfl (by kernel_rfl) (by kernel_rfl) (by kernel_rfl) (fun _ _ _ h => h) (Or.inl ⟨by rfl, ?_⟩) (by assumption) ?_; rotate_left 1; (focus (intro w' hSw; (try dsimp only at hSw); go_simp; (try with_reducible rfl); done)); try simp only [Act.put, List.setIfInBounds_toArray, List.set_cons_zero, List.set_cons_succ, List.getElem_toArray, List.getElem_cons_zero, List.getElem_cons_succ])
          (refine wpAnyH_take (i := 13) (v := undef) rfl (by kernel_rfl) (by kernel_rfl) (by kernel_rfl) (fun _ _ _ h => h) (Or.inr ⟨by rfl, rfl⟩) (by assumption) ?_; try simp only [Act.put, List.setIfInBounds_toArray, List.set_cons_zero, List.set_cons_succ, List.getElem_toArray, List.getElem_cons_zero, List.getElem_cons_succ])
          (refine wpAnyH_take (i := 14) (v := undef) rfl (by kernel_rfl) (by kernel_rfl) (by kernel_rfl) (fun _ _ _ h => h) (Or.inr ⟨by rfl, rfl⟩) (by assumption) ?_; try simp only [Act.put, List.setIfInBounds_toArray, List.set_cons_zero, List.set_cons_succ, List.getElem_toArray, List.getElem_cons_zero, List.getElem_cons_succ])
          (refine wpAnyH_take (i := 15) (v := undef) rfl (by kernel_rfl) (by kernel_rfl) (by kernel_rfl) (fun _ _ _ h => h) (Or.inr ⟨by rfl, rfl⟩) (by assumption) ?_; try simp only [Act.put, List.setIfInBounds_toArray, List.set_cons_zero, List.set_cons_succ, List.getElem_toArray, List.getElem_cons_zero, List.getElem_cons_succ])
          (refine wpAnyH_take (i := 16) (v := undef) rfl (by kernel_rfl) (by kernel_rfl) (by kernel_rfl) (fun _ _ _ h => h) (Or.inr ⟨by rfl, rfl⟩) (by assumption) ?_; try simp only [Act.put, List.setIfInBounds_toArray, List.set_cons_zero, List.set_cons_succ, List.getElem_toArray, List.getElem_cons_zero, List.getElem_cons_succ])
          (refine wpAnyH_take (i := 17) (v := undef) rfl (by kernel_rfl) (by kernel_rfl) (by kernel_rfl) (fun _ _ _ h => h) (Or.inr ⟨by rfl, rfl⟩) (by assumption) ?_; try simp only [Act.put, List.setIfInBounds_toArray, List.set_cons_zero, List.set_cons_succ, List.getElem_toArray, List.getElem_cons_zero, List.getElem_cons_succ])
          (refine wpAnyH_take (i := 18) (v := undef) rfl (by kernel_rfl) (by kernel_rfl) (by kernel_rfl) (fun _ _ _ h => h) (Or.inr ⟨by rfl, rfl⟩) (by assumption) ?_; try simp only [Act.put, List.setIfInBounds_toArray, List.set_cons_zero, List.set_cons_succ, List.getElem_toArray, List.getElem_cons_zero, List.getElem_cons_succ])
          (refine wpAnyH_take (i := 19) (v := undef) rfl (by kernel_rfl) (by kernel_rfl) (by kernel_rfl) (fun _ _ _ h => h) (Or.inr ⟨by rfl, rfl⟩) (by assumption) ?_; try simp only [Act.put, List.setIfInBounds_toArray, List.set_cons_zero, List.set_cons_succ, List.getElem_toArray, List.getElem_cons_zero, List.getElem_cons_succ])
          (refine wpAnyH_take (i := 20) (v := undef) rfl (by kernel_rfl) (by kernel_rfl) (by kernel_rfl) (fun _ _ _ h => h) (Or.inr ⟨by rfl, rfl⟩) (by assumption) ?_; try simp only [Act.put, List.setIfInBounds_toArray, List.set_cons_zero, List.set_cons_succ, List.getElem_toArray, List.getElem_cons_zero, List.getElem_cons_succ])
          (refine wpAnyH_take (i := 21) (v := undef) rfl (by kernel_rfl) (by kernel_rfl) (by kernel_rfl) (fun _ _ _ h => h) (Or.inr ⟨by rfl, rfl⟩) (by assumption) ?_; try simp only [Act.put, List.setIfInBounds_toArray, List.set_cons_zero, List.set_cons_succ, List.getElem_toArray, List.getElem_cons_zero, List.getElem_cons_succ])
          (refine wpAnyH_take (i := 22) (v := ?_) rfl (by kernel_rfl) (by kernel_rfl) (by kernel_rfl) (fun _ _ _ h => h) (Or.inl ⟨by rfl, ?_⟩) (by assumption) ?_; rotate_left 1; (focus (intro w' hSw; (try dsimp only at hSw); go_simp; (try with_reducible rfl); done)); try simp only [Act.put, List.setIfInBounds_toArray, List.set_cons_zero, List.set_cons_succ, List.getElem_toArray, List.getElem_cons_zero, List.getElem_cons_succ])
          (refine wpAnyH_take (i := 23) (v := ?_) rfl (by kernel_rfl) (by kernel_rfl) (by kernel_rfl) (fun _ _ _ h => h) (Or.inl ⟨by rfl, ?_⟩) (by assumption) ?_; rotate_left 1; (focus (intro w' hSw; (try dsimp only at hSw); go_simp; (try with_reducible rfl); done)); try simp only [Act.put, List.setIfInBounds_toArray, List.set_cons_zero, List.set_cons_succ, List.getElem_toArray, List.getElem_cons_zero, List.getElem_cons_succ])
          refine wpAnyH_done (by kernel_rfl) ?_ _
          have HB1 := Lib.hid hb1
          clear hb1
          go_wp2
          go_ret
          exact ⟨_, rfl, HFIN.out _ (no_fit fun h => of_decide_eq_false V2H.out h.2.1), below_next HBR.out.drew (Nat.le_refl _) HB1.out⟩
        · rw [v2] at w2 x2
          have V2H := Lib.hid v2
          have V3H := Lib.hid w3
          clear w3
          go_region_held3 (fun w' => w'.cell? ⟨w.heap.size, 0, none⟩ = some (.int .i64 k) ∧ w'.cell? ⟨w.heap.size, 1, none⟩ = some (.slice A nw c) ∧ w'.cell? ⟨w.heap.size, 2, none⟩ = some (.slice (some ⟨b, o, none⟩) n c') ∧ w'.cell? ⟨w.heap.size + 1, 0, none⟩ = some (.int .i64 sq) ∧ w'.cell? ⟨w.heap.size + 1, 1, none⟩ = some (.int .i64 bt) ∧ w'.cell? ⟨w.heap.size + 1, 2, none⟩ = some (.int .i64 p) ∧ w'.cell? ⟨w.heap.size + 1, 3, none⟩ = some (.int .i64 la) ∧ w'.cell? ⟨w.heap.size + 1, 4, none⟩ = some (.int .i64 W) ∧ w'.cell? ⟨gl, m - 1, none⟩ = some (.int .i64 L))
              (first | exact ⟨p0, p1, p2, q0, q1, q2, q3, q4, cl'⟩ | exact ⟨(hb1.cell (p := ⟨_, _, none⟩) zs).trans p0, (hb1.cell (p := ⟨_, _, none⟩) zs).trans p1, (hb1.cell (p := ⟨_, _, none⟩) zs).trans p2, (hb1.cell (p := ⟨_, _, none⟩) zi).trans q0, (hb1.cell (p := ⟨_, _, none⟩) zi).trans q1, (hb1.cell (p := ⟨_, _, none⟩) zi).trans q2, (hb1.cell (p := ⟨_, _, none⟩) zi).trans q3, (hb1.cell (p := ⟨_, _, none⟩) zi).trans q4, (hb1.cell (p := ⟨_, _, none⟩) zl).trans cl'⟩)
              (first | (go_at_call 92; refine (frames_any k W (.slice A nw c) (.slice (some ⟨b, o, none⟩) n c') sq bt p la _ (by omega) hk).mono ?_; rintro e w1 ⟨rfl, hb1⟩))
          have HB1 := Lib.hid hb1
          clear hb1
          go_wp2
          go_ret
          exact ⟨_, rfl, HFIN.out _ ⟨fun h => ⟨of_decide_eq_true V1H.out, of_decide_eq_true V2H.out, of_decide_eq_true (V3H.out.symm.trans h)⟩, fun h => V3H.out.trans (decide_eq_true h.2.2)⟩, below_next HBR.out.drew (Nat.le_refl _) HB1.out⟩

set_option maxHeartbeats 4000000 in
theorem fitsX_any (k : Nat) (A A' : Option Addr) (nw c n c' : Nat) (F : Nat → Fr) (sq bt fi la wo : Int) (w : World) (hT : Tab w w.heap.size A' n c' F) (hn : n ≤ 64) (hv : FV F n) (hk : k ≤ 8) (hw : nw ≤ 16384) :
    Calls Try.prog 83 #[.agg #[.int .i64 k, .slice A nw c, .slice A' n c'], .agg #[.int .i64 sq, .int .i64 bt, .int .i64 fi, .int .i64 la, .int .i64 wo]] w (FitsX k n nw F sq bt fi la wo w) := by
  have HT := Lib.hid hT
  have HV := Lib.hid hv
  obtain ⟨U, hU⟩ : ∃ U, U = (w.alloc (.cells #[.int .i64 k, .slice A nw c, .slice A' n c'] 25)).alloc (.cells #[.int .i64 sq, .int .i64 bt, .int .i64 fi, .int .i64 la, .int .i64 wo] 51) := ⟨_, rfl⟩
  have hBU : Below w.heap.size w U := by rw [hU]; exact ((Below.refl _ _).alloc (Nat.le_refl _) _).alloc (by simp) _
  have HB0 : Hid (Below w.heap.size w ((w.alloc (.cells #[.int .i64 k, .slice A nw c, .slice A' n c'] 25)).alloc (.cells #[.int .i64 sq, .int .i64 bt, .int .i64 fi, .int .i64 la, .int .i64 wo] 51))) := by rw [hU] at hBU; exact hBU
  have BS : Blk U w.heap.size 25 #[.int .i64 k, .slice A nw c, .slice A' n c'] := by rw [hU]; exact (Blk.new _ _ _).alloc _
  have BI : Blk U (w.heap.size + 1) 51 #[.int .i64 sq, .int .i64 bt, .int .i64 fi, .int .i64 la, .int .i64 wo] := by rw [hU]; exact Blk.newAt _ _ _ _ (by simp)
  have HBU := Lib.hid hBU
  have HU := Lib.hid hU
  clear hT hv hU hBU
  by_cases t1 : sq < 0
  · go_enter Try.func83, Try.ntmps83
    go_wp2
    go_ret
    exact ⟨false, rfl, no_fit (fun h => by have := h.1.1; omega), HB0.out⟩
  by_cases t2 : 4294967295 < sq
  · go_enter Try.func83, Try.ntmps83
    go_wp2
    go_ret
    exact ⟨false, rfl, no_fit (fun h => by have := h.1.2.1; omega), HB0.out⟩
  by_cases t3 : bt < 0
  · go_enter Try.func83, Try.ntmps83
    go_wp2
    go_ret
    exact ⟨false, rfl, no_fit (fun h => by have := h.1.2.2.1; omega), HB0.out⟩
  by_cases t4 : 4 ≤ bt
  · go_enter Try.func83, Try.ntmps83
    go_wp2
    go_ret
    exact ⟨false, rfl, no_fit (fun h => by have := h.1.2.2.2.1; omega), HB0.out⟩
  by_cases t5 : wo < 0
  · go_enter Try.func83, Try.ntmps83
    go_wp2
    go_ret
    exact ⟨false, rfl, no_fit (fun h => by obtain ⟨_, _, _, _, W', e, _⟩ := h.1; omega), HB0.out⟩
  by_cases t6 : (nw : Int) < wo
  · go_enter Try.func83, Try.ntmps83
    go_wp2
    go_ret
    exact ⟨false, rfl, no_fit (fun h => by obtain ⟨_, _, _, _, W', e, e2, _⟩ := h.1; omega), HB0.out⟩
  obtain ⟨W, rfl⟩ : ∃ W : Nat, wo = W := ⟨wo.toNat, by omega⟩
  have hWn : W ≤ nw := by omega
  by_cases t7 : W = 0
  · subst t7
    by_cases t8 : fi = -1
    · subst t8
      by_cases t9 : la = -1
      · subst t9
        have HF : Hid (FitsQ k n nw F sq bt (-1) (-1) ((0 : Nat) : Int)) := ⟨⟨by omega, by omega, by omega, by omega, 0, rfl, by omega, .inl ⟨ceilV_zero k, rfl⟩, fun _ => ⟨rfl, rfl⟩⟩, fun h => by omega⟩
        go_enter Try.func83, Try.ntmps83
        go_wp2
        go_ret
        exact ⟨true, rfl, ⟨fun _ => HF.out, fun _ => rfl⟩, HB0.out⟩
      · have b1 : (la == -1) = false := by simpa using t9
        have HL9 := Lib.hid (show ¬ FitsQ k n nw F sq bt (-1) la ((0 : Nat) : Int) from fun h => by obtain ⟨_, _, _, _, W', e, _, _, e2⟩ := h.1; exact t9 (e2 (by omega)).2)
        go_enter Try.func83, Try.ntmps83
        go_wp2
        go_ret
        exact ⟨false, rfl, no_fit (HL9.out), HB0.out⟩
    · have b1 : (fi == -1) = false := by simpa using t8
      have HL9 := Lib.hid (show ¬ FitsQ k n nw F sq bt fi la ((0 : Nat) : Int) from fun h => by obtain ⟨_, _, _, _, W', e, _, _, e2⟩ := h.1; exact t8 (e2 (by omega)).1)
      go_enter Try.func83, Try.ntmps83
      go_wp2
      go_ret
      exact ⟨false, rfl, no_fit (HL9.out), HB0.out⟩
  have W0 : 0 < W := by omega
  have t7' : ((W : Int) == 0) = false := by simp; omega
  have hpos := ceilV_pos (k := k) W0
  have hfr : FitsQ k n nw F sq bt fi la W → ∃ p : Nat, fi = p ∧ p < n ∧ (F p).ow = sq ∧ (F p).st = bt * 4294967296 + sq := fun h => by
    obtain ⟨_, _, _, _, W', e, _, hc, _⟩ := h.1
    obtain rfl : W = W' := by omega
    rcases hc with ⟨h7, _⟩ | ⟨_, p', l, h7, h8, _, _, _, _, h9, h10⟩
    · omega
    · exact ⟨p', h7, h8, h9, h10⟩
  have HFR := Lib.hid hfr
  clear hfr hpos
  by_cases u1 : fi < 0
  · have HL9 := Lib.hid (show ¬ FitsQ k n nw F sq bt fi la W from fun h => by obtain ⟨p, e, _⟩ := HFR.out h; omega)
    go_enter Try.func83, Try.ntmps83
    go_wp2
    go_ret
    exact ⟨false, rfl, no_fit (HL9.out), HB0.out⟩
  by_cases u2 : (n : Int) ≤ fi
  · have HL9 := Lib.hid (show ¬ FitsQ k n nw F sq bt fi la W from fun h => by obtain ⟨p, e, e2, _⟩ := HFR.out h; omega)
    go_enter Try.func83, Try.ntmps83
    go_wp2
    go_ret
    exact ⟨false, rfl, no_fit (HL9.out), HB0.out⟩
  obtain ⟨p, rfl⟩ : ∃ p : Nat, fi = p := ⟨fi.toNat, by omega⟩
  have hp : p < n := by omega
  have hpi : 0 ≤ (p : Int) ∧ (p : Int) < n := by omega
  obtain ⟨b, o, rfl, hbb⟩ := HT.out.base_ (by omega)
  obtain ⟨_, c0, c1, c2⟩ := HT.out.cells p hp
  obtain ⟨x0, hx0⟩ : ∃ x, x = (F p).ow := ⟨_, rfl⟩
  obtain ⟨x1, hx1⟩ : ∃ x, x = (F p).st := ⟨_, rfl⟩
  rw [← hx0] at c0
  rw [← hx1] at c1
  have HX0 := Lib.hid hx0
  have HX1 := Lib.hid hx1
  have sm : 0 ≤ bt * 4294967296 ∧ bt * 4294967296 ≤ 12884901888 := by omega
  have HB1 : Hid (Below w.heap.size w (((w.alloc (.cells #[.int .i64 k, .slice A nw c, .slice (some ⟨b, o, none⟩) n c'] 25)).alloc (.cells #[.int .i64 sq, .int .i64 bt, .int .i64 p, .int .i64 la, .int .i64 W] 51)).alloc (.cells #[.int .i64 x0, .int .i64 x1, .int .i64 (F p).nx] 61))) := HB0.out.alloc HB0.out.size _
  clear hx0 hx1 t7
  by_cases u3 : x0 = sq
  · subst u3
    by_cases u4 : x1 = bt * 4294967296 + x0
    · have HX1' : Hid ((F p).st = bt * 4294967296 + x0) := by rw [← HX1.out]; exact u4
      subst u4
      exact fits_main k A _ nw c n c' F x0 bt la p W w HT.out hn HV.out hk hw ⟨by omega, by omega⟩ ⟨by omega, by omega⟩ W0 hWn hp HX0.out.symm HX1'.out
    · have ub : (x1 == bt * 4294967296 + x0) = false := by simpa using u4
      have ub2 : (x1 != bt * 4294967296 + x0) = true := by simpa using u4
      have HU4 := Lib.hid u4
      clear u4
      go_enter Try.func83, Try.ntmps83
      go_wp2
      go_ret
      exact ⟨false, rfl, no_fit (fun h => by obtain ⟨q, e1, _, e2, e3⟩ := HFR.out h; obtain rfl : p = q := (by omega); exact HU4.out (HX1.out.trans e3)), HB1.out⟩
  · have ub : (x0 == sq) = false := by simpa using u3
    have ub2 : (x0 != sq) = true := by simpa using u3
    have HU3 := Lib.hid u3
    clear u3
    go_enter Try.func83, Try.ntmps83
    go_wp2
    go_ret
    exact ⟨false, rfl, no_fit (fun h => by obtain ⟨q, e1, _, e2, e3⟩ := HFR.out h; obtain rfl : p = q := (by omega); exact HU3.out (HX0.out.trans e2)), HB1.out⟩

theorem fits_any (k : Nat) (A A' : Option Addr) (nw c n c' : Nat) (F : Nat → Fr) (sq bt fi la wo : Int) (w : World) (hT : Tab w w.heap.size A' n c' F) (hn : n ≤ 64) (hv : FV F n) (hk : k ≤ 8) (hw : nw ≤ 16384) :
    Calls Try.prog 83 #[.agg #[.int .i64 k, .slice A nw c, .slice A' n c'], .agg #[.int .i64 sq, .int .i64 bt, .int .i64 fi, .int .i64 la, .int .i64 wo]] w (FitsOf k n nw F sq bt fi la wo w) :=
  (fitsX_any k A A' nw c n c' F sq bt fi la wo w hT hn hv hk hw).mono fun _ _ ⟨b, h1, h2, h3⟩ => ⟨b, h1, fun h => (h2.1 h).1, h3⟩
end Go.Proofs.Ytjkbjbikofindaa
