/-
  The reference's Parse.
-/
import Derived.Test.YtodnicaidmilkaaDoorNOpt
import Derived.Test.YtodnicaidmilkaaDoorNPrt
import Derived.Test.YtodnicaidmilkaaDoorNDcf
namespace Go.Proofs.YtodnicaidmilkaaDoor
open Go.RowKit
set_option maxRecDepth 100000
set_option linter.unusedVariables false

def nmN (L : List Nat) : Nat := (L.takeWhile fun c => decide (c ≠ 32)).length
theorem nmN_le (L : List Nat) : nmN L ≤ L.length := (List.takeWhile_sublist _).length_le
theorem take_nmN : ∀ L : List Nat, L.take (nmN L) = (L.takeWhile fun c => decide (c ≠ 32)) ∧ L.drop (nmN L) = (L.dropWhile fun c => decide (c ≠ 32))
  | [] => ⟨rfl, rfl⟩
  | c :: L => by
    obtain ⟨i1, i2⟩ := take_nmN L
    unfold nmN at *
    rw [List.takeWhile_cons, List.dropWhile_cons]
    split
    · rw [List.length_cons, List.take_succ_cons, List.drop_succ_cons, i1, i2]
      exact ⟨rfl, rfl⟩
    · exact ⟨rfl, rfl⟩
theorem nm_before : ∀ {L : List Nat} {k c : Nat}, k < nmN L → L[k]? = some c → c ≠ 32
  | [], k, c, _, hc => by simp at hc
  | d :: L, k, c, hk, hc => by
    unfold nmN at hk
    rw [List.takeWhile_cons] at hk
    split at hk
    · rename_i h
      cases k with
      | zero => simp at hc; subst hc; exact of_decide_eq_true h
      | succ k =>
        rw [List.length_cons] at hk
        exact nm_before (L := L) (show k < nmN L by unfold nmN; omega) (by simpa using hc)
    · simp at hk
theorem nm_at : ∀ {L : List Nat} {c : Nat}, L[nmN L]? = some c → c = 32
  | [], c, hc => by simp at hc
  | d :: L, c, hc => by
    unfold nmN at hc
    rw [List.takeWhile_cons] at hc
    split at hc
    · rw [List.length_cons, List.getElem?_cons_succ] at hc
      exact nm_at (L := L) hc
    · rename_i h
      simp at hc
      subst hc
      simpa using h
/-- When the name is refused. -/
theorem prs_long {L : List Nat} (h : 1024 < L.length) : prsE L = 9 := by unfold prsE; rw [if_pos h]
theorem prs_name {L : List Nat} (h0 : ¬ 1024 < L.length) (h : nmN L < 1 ∨ 16 < nmN L ∨ (L.take (nmN L)).all chrB = false) : prsE L = 11 := by
  have e : textP L = none := by
    unfold textP
    rw [if_pos (by rw [← (take_nmN L).1]; rcases h with h | h | h; (· exact .inl (by rw [List.length_take]; omega)); (· exact .inr (.inl (by rw [List.length_take]; have := nmN_le L; omega))); (· exact .inr (.inr h)))]
  unfold prsE
  rw [if_neg h0, e]
theorem prs_text {L : List Nat} (h : ¬ (nmN L < 1 ∨ 16 < nmN L ∨ (L.take (nmN L)).all chrB = false)) : textP L = (fixP tFull (L.drop (nmN L))).bind fun K => (numP K).bind fun x => (fixP tCol x.2).bind fun K => (rlsP K.length K).bind fun R => some (L.take (nmN L), x.1, R) := by
  unfold textP
  rw [if_neg, ← (take_nmN L).1, ← (take_nmN L).2]
  rw [← (take_nmN L).1]
  intro h2
  have hl := nmN_le L
  rcases h2 with h2 | h2 | h2
  · rw [List.length_take] at h2; exact h (.inl (by omega))
  · rw [List.length_take] at h2; exact h (.inr (.inl (by omega)))
  · exact h (.inr (.inr h2))

theorem RdP.lt {w : World} {rd : Nat} {o : Option (List Nat)} (h : RdP w rd o) : rd < w.heap.size := by
  obtain ⟨L, b, _, _, h3, _⟩ := h
  exact h3.lt
theorem RdP.bad {w : World} {rd : Nat} (h : RdP w rd none) : w.cell? ⟨rd, 1, none⟩ = some (.bool true) := by
  obtain ⟨L, b, _, _, h3, _, h5⟩ := h
  have := h3.cell 1
  rw [h5 rfl] at this
  exact this
theorem RdP.good {w : World} {rd : Nat} {K : List Nat} (h : RdP w rd (some K)) : w.cell? ⟨rd, 1, none⟩ = some (.bool false) ∧ w.cell? ⟨rd, 0, none⟩ = some (.string (tx K)) := by
  obtain ⟨L, b, _, _, h3, h4, _⟩ := h
  obtain ⟨rfl, rfl⟩ := h4 K rfl
  exact ⟨h3.cell 1, h3.cell 0⟩
theorem RdP.byt {w : World} {rd : Nat} {K : List Nat} (h : RdP w rd (some K)) : Byt K := by
  obtain ⟨L, b, h1, _, h3, h4, _⟩ := h
  obtain ⟨rfl, rfl⟩ := h4 K rfl
  exact h1
theorem RdP.short {w : World} {rd : Nat} {K : List Nat} (h : RdP w rd (some K)) : K.length ≤ 1024 := by
  obtain ⟨L, b, _, h2, h3, h4, _⟩ := h
  obtain ⟨rfl, rfl⟩ := h4 K rfl
  exact h2
/-- What is left to read, as a number; 0 once the text is bad. -/
def badM (w : World) (rd : Nat) : Nat := match w.cell? ⟨rd, 1, none⟩ with
  | some (.bool true) => 0
  | _ => match w.cell? ⟨rd, 0, none⟩ with
    | some (.string s) => 1 + s.size
    | _ => 1
theorem RdP.meas {w : World} {rd : Nat} {K : List Nat} (h : RdP w rd (some K)) : badM w rd = 1 + K.length := by
  obtain ⟨h1, h2⟩ := h.good
  unfold badM
  rw [h1, h2]
  simp only [tx_size]
theorem RdP.meas0 {w : World} {rd : Nat} (h : RdP w rd none) : badM w rd = 0 := by
  unfold badM
  rw [h.bad]
theorem RdP.far {w : World} {rd : Nat} {o : Option (List Nat)} (h : RdP w rd o) {p : Addr} (hp : rd ≠ p.block) (u : Value) : RdP (w.setCell p u) rd o := by
  obtain ⟨L, b, h1, h2, h3, h4⟩ := h
  exact ⟨L, b, h1, h2, h3.far hp u, h4⟩
theorem lt_trans3 {a b c d : Nat} (h1 : a < b) (h2 : b < c) (h3 : c < d) : a < d := by omega
theorem prs_none {L : List Nat} (h0 : ¬ 1024 < L.length) (h : textP L = none) : prsE L = 11 := by
  unfold prsE
  rw [if_neg (by omega), h]
/-- What holds ahead of each rule. -/
def PI (w : World) (nm : List Nat) (fn rd cb bs M : Nat) (L : List Nat) (wr : World) : Prop := ∃ (o : Option (List Nat)) (Rv : List Rl) (v : Value), RdP wr rd o ∧ Blk wr cb 24 #[.string (tx nm), v, .int .i64 (fn : Int)] ∧ ROwn wr bs v Rv ∧ Rv.length ≤ 1025 ∧ WfR Rv ∧
  Blk wr w.heap.size 24 #[.string { data := #[] }, .slice none 0 0, .int .i64 0] ∧ Below w.heap.size w wr ∧ bs ≤ wr.heap.size ∧ (∀ K, o = some K → ∃ P, Rv = mkR P ∧ P.length + K.length ≤ M ∧ textP L = (rlsP (M - P.length) K).bind fun S => some (nm, fn, P ++ S)) ∧ (o = none → textP L = none)
theorem start_pi {w X5 : World} {L KL nm : List Nat} {fn rd cb : Nat} {o3 : Option (List Nat)} (HTE : textP L = (fixP tFull KL).bind fun K => (numP K).bind fun x => (fixP tCol x.2).bind fun K => (rlsP K.length K).bind fun R => some (nm, x.1, R))
    (HO3 : o3 = ((((some KL).bind (fixP tFull)).bind numP).map fun x => x.2)) (HFX : ∀ x, ((some KL).bind (fixP tFull)).bind numP = some x → fn = x.1) (hr5 : RdP X5 rd (o3.bind (fixP tCol))) (BC : Blk X5 cb 24 #[.string (tx nm), .slice none 0 0, .int .i64 (fn : Int)])
    (BR : Blk X5 w.heap.size 24 #[.string { data := #[] }, .slice none 0 0, .int .i64 0]) (HB : Below w.heap.size w X5) : ∃ M, M ≤ 1024 ∧ PI w nm fn rd cb X5.heap.size M L X5 := by
  rw [Option.bind_some] at HO3 HFX
  rcases e : o3.bind (fixP tCol) with _ | K0
  · refine ⟨0, by omega, none, [], .slice none 0 0, by rw [← e]; exact hr5, BC, ROwn.nil _ _, by simp, fun j r h => by simp at h, BR, HB, Nat.le_refl _, fun K h => (by cases h), fun _ => ?_⟩
    rw [HTE]
    rcases e1 : fixP tFull KL with _ | K1
    · rfl
    · rw [e1, Option.bind_some] at HO3
      rw [Option.bind_some]
      rcases e2 : numP K1 with _ | x
      · rfl
      · rw [e2] at HO3
        rw [Option.bind_some]
        rw [HO3] at e
        have e : fixP tCol x.2 = none := e
        rw [e]
        rfl
  · rw [e] at hr5
    refine ⟨K0.length, hr5.short, some K0, [], .slice none 0 0, hr5, BC, ROwn.nil _ _, by simp, fun j r h => by simp at h, BR, HB, Nat.le_refl _, fun K h => ?_, fun h => by cases h⟩
    injection h with h
    subst h
    refine ⟨[], rfl, by simp, ?_⟩
    rw [HTE]
    rcases e1 : fixP tFull KL with _ | K1
    · rw [e1] at HO3; rw [HO3] at e; cases e
    · rw [e1, Option.bind_some] at HO3 HFX
      rcases e2 : numP K1 with _ | x
      · rw [e2] at HO3; rw [HO3] at e; cases e
      · rw [e2] at HO3
        rw [HO3] at e
        have e : fixP tCol x.2 = some K0 := e
        have hf := HFX x e2
        subst hf
        simp only [Option.bind_some, e2, e, List.length_nil, Nat.sub_zero, List.nil_append]
theorem RdP.spoil {w : World} {rd : Nat} {o : Option (List Nat)} (h : RdP w rd o) : RdP (w.setCell ⟨rd, 1, none⟩ (.bool true)) rd none := by
  obtain ⟨L, b, h1, h2, h3, h4⟩ := h
  exact ⟨L, true, h1, h2, h3.set_ 1 _, fun K hK => (by cases hK), fun _ => rfl⟩
theorem sh_all {K : List Nat} (h : K.head? = some 97) : (shP K).map (·.2) = fixP tAll K ∧ ∀ y, shP K = some y → 0 = Sh.pctF y.1 := by
  unfold shP
  rw [if_pos h]
  rcases fixP tAll K with _ | M
  · exact ⟨rfl, fun y hy => (by cases hy)⟩
  · refine ⟨rfl, fun y hy => ?_⟩
    injection hy with hy
    subst hy
    exact pct_zero.symm
theorem sh_bad {K : List Nat} {n : Nat} (h : ¬ K.head? = some 97) (hn : ∀ x, numP K = some x → n = x.1) (hr : ¬ (1 ≤ n ∧ n ≤ 100)) : shP K = none := by
  unfold shP
  rw [if_neg h]
  rcases e : numP K with _ | x
  · rfl
  · have := hn x e
    subst this
    rw [Option.bind_some]
    rcases fixP tPct x.2 with _ | M
    · rfl
    · rw [Option.bind_some, if_neg hr]
theorem sh_num {K : List Nat} {n : Nat} (h : ¬ K.head? = some 97) (hn : ∀ x, numP K = some x → n = x.1) (hr : 1 ≤ n ∧ n ≤ 100) : (((some K).bind numP).map fun x => x.2).bind (fixP tPct) = (shP K).map (·.2) ∧ ∀ y, shP K = some y → Sh.pctF n = Sh.pctF y.1 := by
  unfold shP
  rw [if_neg h, Option.bind_some]
  rcases e : numP K with _ | x
  · exact ⟨rfl, fun y hy => (by cases hy)⟩
  · have := hn x e
    subst this
    rw [Option.bind_some]
    show fixP tPct x.2 = _ ∧ _
    rcases fixP tPct x.2 with _ | M
    · exact ⟨rfl, fun y hy => (by cases hy)⟩
    · rw [Option.bind_some, if_pos hr]
      refine ⟨rfl, fun y hy => ?_⟩
      injection hy with hy
      subst hy
      rfl
theorem rul_state {K : List Nat} {x l b t : Nat} {o0 o1 o2 o3 o4 o5 o6 : Option (List Nat)} (h0 : o0 = (shP K).map (·.2)) (hx : ∀ y, shP K = some y → x = Sh.pctF y.1) (h1 : o1 = o0.bind (fixP tSl)) (h2 : o2 = (o1.bind numP).map (·.2)) (hl : ∀ y, o1.bind numP = some y → l = y.1)
    (h3 : o3 = o2.bind (fixP tSl)) (h4 : o4 = (o3.bind numP).map (·.2)) (hb : ∀ y, o3.bind numP = some y → b = y.1) (h5 : o5 = o4.bind (fixP tGt)) (h6 : o6 = (o5.bind numP).map (·.2)) (ht : ∀ y, o5.bind numP = some y → t = y.1) :
    o6 = (rulP K).map (·.2) ∧ ∀ y, rulP K = some y → x = Sh.pctF y.1.p ∧ l = y.1.l ∧ b = y.1.b ∧ t = y.1.t := by
  unfold rulP
  rcases e0 : shP K with _ | y0
  · rw [e0] at h0
    subst h0 h1 h2 h3 h4 h5 h6
    exact ⟨rfl, fun y hy => (by cases hy)⟩
  · have hx := hx y0 e0
    rw [e0] at h0
    have h0 : o0 = some y0.2 := h0
    subst h0
    rw [Option.bind_some] at h1 ⊢
    rcases e1 : fixP tSl y0.2 with _ | K1
    · rw [e1] at h1
      subst h1 h2 h3 h4 h5 h6
      exact ⟨rfl, fun y hy => (by cases hy)⟩
    · rw [e1] at h1
      subst h1
      rw [Option.bind_some] at h2 hl ⊢
      rcases e2 : numP K1 with _ | y2
      · rw [e2] at h2
        subst h2 h3 h4 h5 h6
        exact ⟨rfl, fun y hy => (by cases hy)⟩
      · have hl := hl y2 e2
        rw [e2] at h2
        have h2 : o2 = some y2.2 := h2
        subst h2
        rw [Option.bind_some] at h3 ⊢
        rcases e3 : fixP tSl y2.2 with _ | K3
        · rw [e3] at h3
          subst h3 h4 h5 h6
          exact ⟨rfl, fun y hy => (by cases hy)⟩
        · rw [e3] at h3
          subst h3
          rw [Option.bind_some] at h4 hb ⊢
          rcases e4 : numP K3 with _ | y4
          · rw [e4] at h4
            subst h4 h5 h6
            exact ⟨rfl, fun y hy => (by cases hy)⟩
          · have hb := hb y4 e4
            rw [e4] at h4
            have h4 : o4 = some y4.2 := h4
            subst h4
            rw [Option.bind_some] at h5 ⊢
            rcases e5 : fixP tGt y4.2 with _ | K5
            · rw [e5] at h5
              subst h5 h6
              exact ⟨rfl, fun y hy => (by cases hy)⟩
            · rw [e5] at h5
              subst h5
              rw [Option.bind_some] at h6 ht ⊢
              rcases e6 : numP K5 with _ | y6
              · rw [e6] at h6
                subst h6
                exact ⟨rfl, fun y hy => (by cases hy)⟩
              · have ht := ht y6 e6
                rw [e6] at h6
                subst h6
                refine ⟨rfl, fun y hy => ?_⟩
                injection hy with hy
                subst hy
                exact ⟨hx, hl, hb, ht⟩
theorem pcF_lt2 (n : Nat) : Sh.pcF (n : Int) < 18446744073709551616 := Sh.pcF_lt n
theorem wf_snoc {R : List Rl} {r : Rl} (h : WfR R) (hr : r.s < 18446744073709551616) : WfR (R ++ [r]) := fun j y hy => by
  rw [List.getElem?_append] at hy
  split at hy
  · exact h j y hy
  · have : j - R.length = 0 := by
      have := gt_lt hy
      simp at this
      omega
    rw [this] at hy
    injection hy with hy
    subst hy
    exact hr
theorem rls_fall {K : List Nat} (h : rulP K = none) : ∀ n, rlsP n K = none
  | 0 => rfl
  | n + 1 => by unfold rlsP; rw [h]; rfl
theorem rls_last {K : List Nat} {y : Pr × List Nat} (n : Nat) (h : rulP K = some y) (h2 : y.2 = []) : rlsP (n + 1) K = some [y.1] := by
  unfold rlsP
  rw [h, Option.bind_some, if_pos h2]
theorem rls_more {K : List Nat} {y : Pr × List Nat} (n : Nat) (h : rulP K = some y) (h2 : ¬ y.2 = []) : rlsP (n + 1) K = (fixP tCo y.2).bind fun M => (rlsP n M).bind fun R => some (y.1 :: R) := by
  conv => lhs; unfold rlsP
  rw [h, Option.bind_some, if_neg h2]
theorem rulP_len {K : List Nat} {y : Pr × List Nat} (h : rulP K = some y) : 1 + y.2.length ≤ K.length := by
  obtain ⟨e, _⟩ := rulP_of (K := y.2) (r := y.1) h
  have := rulL_pos y.1
  rw [e, List.length_append]
  omega
theorem mkR_snoc2 (P : List Pr) (r : Pr) : mkR (P ++ [r]) = mkR P ++ [⟨Sh.pctF r.p, r.l, r.b, r.t⟩] := by simp [mkR]
/-- The order of the blocks. -/
def Od (w : World) (rd cb bs ub : Nat) (v : Value) : Prop := w.heap.size < cb ∧ cb < rd ∧ rd < bs ∧ bs ≤ ub ∧ (∀ k, v.ownBlock = some k → bs ≤ k) ∧ ∀ k, v.ownBlock = some k → k < ub
/-- What holds of all but the reader inside a round; the new rule lies in the box ub. -/
def FZ (w : World) (nm : List Nat) (fn cb bs ub : Nat) (R : List Rl) (v : Value) (W : World) (x : Nat) (l b t : Int) : Prop :=
  Blk W cb 24 #[.string (tx nm), v, .int .i64 (fn : Int)] ∧ ROwn W bs v R ∧ Blk W w.heap.size 24 #[.string { data := #[] }, .slice none 0 0, .int .i64 0] ∧ Blk W ub 48 #[.float .f64 x, .int .i64 l, .int .i64 b, .int .i64 t] ∧ Below w.heap.size w W ∧ bs ≤ W.heap.size
section
variable {w W W' : World} {nm : List Nat} {fn rd cb bs ub : Nat} {R : List Rl} {v : Value} {x : Nat} {l b t : Int}
theorem FZ.turn (h : FZ w nm fn cb bs ub R v W x l b t) (o : Od w rd cb bs ub v) (hg : W.grownBy W' (some rd)) : FZ w nm fn cb bs ub R v W' x l b t := by
  obtain ⟨h1, h2, h3, h4, h5, h6⟩ := h
  obtain ⟨o1, o2, o3, o4, o5, o6⟩ := o
  exact ⟨h1.turn hg (by omega), h2.keep fun g hg' hl => hg.block g hl (fun e => by injection e with e; omega), h3.turn hg (by omega), h4.turn hg (by omega), h5.trans (turn_under hg (by omega) h5.size), Nat.le_trans h6 hg.size⟩
theorem FZ.put (h : FZ w nm fn cb bs ub R v W x l b t) (o : Od w rd cb bs ub v) (i : Nat) (u : Value) {x' : Nat} {l' b' t' : Int} (hb : Blk (W.setCell ⟨ub, i, none⟩ u) ub 48 #[.float .f64 x', .int .i64 l', .int .i64 b', .int .i64 t']) : FZ w nm fn cb bs ub R v (W.setCell ⟨ub, i, none⟩ u) x' l' b' t' := by
  obtain ⟨h1, h2, h3, h4, h5, h6⟩ := h
  obtain ⟨o1, o2, o3, o4, o5, o6⟩ := o
  exact ⟨h1.far (by show cb ≠ ub; omega) u, h2.far_ (fun k e => by have := o6 k e; show k ≠ ub; omega) u, h3.far (by show w.heap.size ≠ ub; omega) u, hb, h5.setCell (p := ⟨ub, i, none⟩) (by show w.heap.size ≤ ub; omega) u, by simp only [World.size_setCell]; exact h6⟩
theorem FZ.drawn (h : FZ w nm fn cb bs ub R v W x l b t) (n : Nat) : FZ w nm fn cb bs ub R v (W.drewN n) x l b t := by
  obtain ⟨h1, h2, h3, h4, h5, h6⟩ := h
  exact ⟨h1, h2, h3, h4, below_drewN h5 n, h6⟩
end
set_option maxHeartbeats 32000000 in
theorem refParse_any (L : List Nat) (w : World) (hL : Byt L) (hl : L.length ≤ 9223372036854775807) :
    Calls Tryd.prog 13 #[.string (tx L)] w (PrsOf L w) := by
  have s1 := tx_size L
  have HLB := Lib.hid hL
  clear hL
  by_cases h0 : (1024 : Int) < L.length
  · have e := prs_long (L := L) (by omega)
    have HE := Lib.hid e
    clear e
    go_enter Tryd.func13, Tryd.ntmps13
    go_wp2_with fail
    refine bodyPost_ret (v := .tuple #[.agg #[.string { data := #[] }, .slice none 0 0, .int .i64 0], .int .i64 9]) (by simp [results, Tryd.results13, go_sem]) rfl ⟨.inl ⟨by rw [HE.out]; decide, by rw [HE.out]⟩, ?_⟩
    exact (Below.refl _ _).alloc (Nat.le_refl _) _
  · have hnl := nmN_le L
    obtain ⟨W0, hW0⟩ : ∃ W, W = w.alloc (.cells #[.string { data := #[] }, .slice none 0 0, .int .i64 0] 24) := ⟨_, rfl⟩
    have hb0 : Below w.heap.size w W0 := by rw [hW0]; exact (Below.refl _ _).alloc (Nat.le_refl _) _
    have BR0 := Lib.hid (show Blk W0 w.heap.size 24 #[.string { data := #[] }, .slice none 0 0, .int .i64 0] by rw [hW0]; exact Blk.new _ _ _)
    have HB0 := Lib.hid hb0
    have HW0 := Lib.hid hW0
    have H0 := Lib.hid h0
    clear hb0 hW0
    go_enter Tryd.func13, Tryd.ntmps13
    go_wp2_with fail
    rw [← HW0.out]
    go_loop [4] (fun i => ∃ k : Nat, k ≤ nmN L ∧ i = .int .i64 k) (fun i => L.length - (intOf i).toNat)
    case atStart => exact ⟨0, Nat.zero_le _, rfl⟩
    case round =>
      obtain ⟨k, hk, rfl⟩ := hrel
      by_cases hlt : k < nmN L
      · obtain ⟨c, hc⟩ := gt_of (l := L) (j := k) (by omega)
        have hd := nm_before hlt hc
        obtain ⟨hi, hz⟩ := tx_byte HLB.out hc
        have hk1 : (k : Int) < L.length := by omega
        have hk2 : 0 ≤ (k : Int) ∧ (k : Int) < L.length := by omega
        have h32 : ((c : Int) != 32) = true := by simp; omega
        have hw : IntKind.i64.wrap ((k : Int) + 1) = (k : Int) + 1 := IntWalk.i64_in _ (by omega)
        clear hc hd
        go_wp2_with fail
        exact ⟨⟨k + 1, by omega, by go_num⟩, by simp [intOf]; omega⟩
      · obtain rfl : k = nmN L := by omega
        clear hlt hk
        have hst : (¬ (nmN L : Int) < L.length) ∨ ∃ c : Nat, ∃ hi : nmN L < (tx L).size, ((tx L)[nmN L]'hi).toNat = c ∧ (nmN L : Int) < L.length ∧ (0 ≤ (nmN L : Int) ∧ (nmN L : Int) < L.length) ∧ ((c : Int) != 32) = false := by
          rcases Nat.lt_or_ge (nmN L) L.length with h | h
          · obtain ⟨c, hc⟩ := gt_of h
            have hd := nm_at hc
            obtain ⟨hi, hz⟩ := tx_byte HLB.out hc
            exact .inr ⟨c, hi, hz, by omega, by omega, by rw [hd]; rfl⟩
          · exact .inl (by omega)
        have hx : (tx L).extract 0 (nmN L) = tx (L.take (nmN L)) := by rw [tx_extract]; simp
        have hx2 : (tx L).extract (nmN L) L.length = tx (L.drop (nmN L)) := by rw [tx_extract, List.take_of_length_le (by simp)]
        have s3 : (tx (L.take (nmN L))).size = nmN L := by rw [tx_size, List.length_take]; omega
        have r0 := BR0.out.cell 0
        have r1 := BR0.out.cell 1
        have r2 := BR0.out.cell 2
        have f0 := BR0.out.frozen 0
        have f1 := BR0.out.frozen 1
        have f2 := BR0.out.frozen 2
        simp at r0 r1 r2
        have zw0 : w.heap.size < W0.heap.size := BR0.out.lt
        rcases hst with h1 | ⟨c, hi, hz, h1, h2, h3⟩
        all_goals (
          by_cases n1 : (nmN L : Int) < 1
          · have HE := Lib.hid (prs_name (L := L) (by have := H0.out; omega) (.inl (by omega)))
            go_wp2_with fail
            refine bodyPost_ret (v := .tuple #[.agg #[.string { data := #[] }, .slice none 0 0, .int .i64 0], .int .i64 11]) (by simp [results, Tryd.results13, go_sem, r0, r1, r2, zw0]) rfl ⟨.inl ⟨by rw [HE.out]; decide, by rw [HE.out]⟩, ?_⟩
            exact (((HB0.out.setCell (p := ⟨w.heap.size, 0, none⟩) (Nat.le_refl _) _).setCell (p := ⟨w.heap.size, 1, none⟩) (Nat.le_refl _) _).setCell (p := ⟨w.heap.size, 2, none⟩) (Nat.le_refl _) _).alloc (by simp only [World.size_setCell]; exact HB0.out.size) _
          · by_cases n2 : (16 : Int) < nmN L
            · have HE := Lib.hid (prs_name (L := L) (by have := H0.out; omega) (.inr (.inl (by omega))))
              go_wp2_with fail
              refine bodyPost_ret (v := .tuple #[.agg #[.string { data := #[] }, .slice none 0 0, .int .i64 0], .int .i64 11]) (by simp [results, Tryd.results13, go_sem, r0, r1, r2, zw0]) rfl ⟨.inl ⟨by rw [HE.out]; decide, by rw [HE.out]⟩, ?_⟩
              exact (((HB0.out.setCell (p := ⟨w.heap.size, 0, none⟩) (Nat.le_refl _) _).setCell (p := ⟨w.heap.size, 1, none⟩) (Nat.le_refl _) _).setCell (p := ⟨w.heap.size, 2, none⟩) (Nat.le_refl _) _).alloc (by simp only [World.size_setCell]; exact HB0.out.size) _
            · have HNB := Lib.hid (HLB.out.take (nmN L))
              have HEC := Lib.hid (fun (h : (L.take (nmN L)).all chrB = false) => prs_name (L := L) (by have := H0.out; omega) (.inr (.inr h)))
              have HTX := Lib.hid (fun (h : (L.take (nmN L)).all chrB = true) => prs_text (L := L) (by rintro (h1 | h1 | h1); (· omega); (· omega); (· rw [h] at h1; cases h1)))
              have hcv := fun W => run_bytes_of_string (P := Tryd.prog) W 9 36 5 (tx (L.take (nmN L))) Tryd.underlying9 Tryd.underlying36 Tryd.underlying5
              rw [s3] at hcv
              have hdl : (L.drop (nmN L)).length ≤ 1024 := by rw [List.length_drop]; have := H0.out; omega
              have hnl2 : (L.take (nmN L)).length = nmN L := by rw [List.length_take]; omega
              have HDB := Lib.hid (HLB.out.drop (nmN L))
              clear h0
              generalize L.take (nmN L) = nm at *
              generalize L.drop (nmN L) = KL at *
              generalize nmN L = k at *
              go_wp2_with fail
              obtain ⟨cp, hcp⟩ : ∃ cp, cp = grownCap (W0.alloc (.cells #[.string (tx nm), .slice none 0 0, .int .i64 0] 24)) k 0 5 := ⟨_, rfl⟩
              rw [← hcp]
              obtain ⟨X, hX⟩ : ∃ X, X = World.drew (World.alloc (W0.alloc (.cells #[.string (tx nm), .slice none 0 0, .int .i64 0] 24)) (Obj.cells (bytesRow (tx nm) cp) 5 ((bytesRow (tx nm) cp).size, (bytesRow (tx nm) cp).size + 1))) := ⟨_, rfl⟩
              rw [← hX]
              have hzz : (W0.alloc (.cells #[.string (tx nm), .slice none 0 0, .int .i64 0] 24)).heap.size = W0.heap.size + 1 := by simp
              have hb1 : Below W0.heap.size W0 (W0.alloc (.cells #[.string (tx nm), .slice none 0 0, .int .i64 0] 24)) := (Below.refl _ _).alloc (Nat.le_refl _) _
              have hb2 : Below (W0.alloc (.cells #[.string (tx nm), .slice none 0 0, .int .i64 0] 24)).heap.size (W0.alloc (.cells #[.string (tx nm), .slice none 0 0, .int .i64 0] 24)) X := by rw [hX]; exact ((Below.refl _ _).alloc (Nat.le_refl _) _).drew
              have hbX : Below W0.heap.size W0 X := below_step hb1 hb1.size hb2
              have BC : Hid (Blk X W0.heap.size 24 #[.string (tx nm), .slice none 0 0, .int .i64 0]) := Lib.hid ((Blk.new W0 _ _).next hb2)
              have HCE : Hid (∀ (j c : Nat), j < k → nm[j]? = some c → X.cell? ⟨W0.heap.size + 1, j, none⟩ = some (.int .u8 c)) := Lib.hid fun j c hj hc => by
                obtain ⟨hi', hz'⟩ := tx_byte HNB.out hc
                have e := bytesRow_at (tx nm) cp j hi'
                have e2 : (tx nm).data[j].toNat = c := hz'
                rw [e2] at e
                rw [hX, ← hzz]
                exact (World.cell?_alloc_mark _ _ _ _ j).trans e
              have BRX := Lib.hid (BR0.out.next hbX)
              have HBX := Lib.hid (below_step HB0.out HB0.out.size hbX)
              have HXX := Lib.hid hX
              have zx0 : w.heap.size < X.heap.size := BRX.out.lt
              have zxc : W0.heap.size < X.heap.size := BC.out.lt
              clear hX hcp hb1 hb2 hbX r0 r1 r2 f0 f1 f2 hzz
              have r0 := BRX.out.cell 0
              have r1 := BRX.out.cell 1
              have r2 := BRX.out.cell 2
              have f0 := BRX.out.frozen 0
              have f1 := BRX.out.frozen 1
              have f2 := BRX.out.frozen 2
              simp at r0 r1 r2
              generalize W0.heap.size = cb at *
              go_loop [43] (fun i => ∃ j : Nat, j ≤ k ∧ i = .int .i64 j ∧ ∀ (i c : Nat), i < j → nm[i]? = some c → chrB c = true) (fun i => k - (intOf i).toNat)
              case atStart => exact ⟨0, by omega, rfl, fun i c h => by omega⟩
              case round =>
                obtain ⟨j, hj, rfl, hok⟩ := hrel
                have HOK := Lib.hid hok
                clear hok
                by_cases hjk : j < k
                · obtain ⟨d, hd⟩ := gt_of (l := nm) (j := j) (by omega)
                  have ce := HCE.out j d hjk hd
                  have hjk2 : (j : Int) < k := by omega
                  have hjk3 : 0 ≤ (j : Int) ∧ (j : Int) < k := by omega
                  have hwj : IntKind.i64.wrap ((j : Int) + 1) = (j : Int) + 1 := IntWalk.i64_in _ (by omega)
                  have HNX := Lib.hid (fun (h : chrB d = true) (i c : Nat) (hi : i < j + 1) (hc : nm[i]? = some c) => show chrB c = true by
                    rcases (by omega : i < j ∨ i = j) with h1 | rfl
                    · exact HOK.out i c h1 hc
                    · rw [hd] at hc
                      injection hc with hc
                      rw [← hc]
                      exact h)
                  have HBD := Lib.hid (fun (h : chrB d = false) => HEC.out (by
                    rcases e : nm.all chrB with _ | _
                    · rfl
                    · have := List.all_eq_true.1 e d (List.mem_iff_getElem?.2 ⟨j, hd⟩)
                      rw [h] at this
                      cases this))
                  clear hd
                  by_cases a1 : 97 ≤ d ∧ d ≤ 122
                  · have HC : Hid (chrB d = true) := Lib.hid (by simp [chrB, letB]; omega)
                    have b1 : ¬ (d : Int) < 97 := by omega
                    have b2 : ¬ (122 : Int) < d := by omega
                    clear a1
                    go_wp2_with fail
                    exact ⟨⟨j + 1, by omega, by go_num, HNX.out HC.out⟩, by simp [intOf]; omega⟩
                  · have a2 : ((d : Int) < 97) ∨ (¬ (d : Int) < 97 ∧ (122 : Int) < d) := by omega
                    by_cases a3 : 48 ≤ d ∧ d ≤ 57
                    · have HC : Hid (chrB d = true) := Lib.hid (by simp [chrB, digB]; omega)
                      have b0 : (d : Int) < 97 := by omega
                      have b1 : ¬ (d : Int) < 48 := by omega
                      have b2 : ¬ (57 : Int) < d := by omega
                      clear a1 a2 a3
                      go_wp2_with fail
                      exact ⟨⟨j + 1, by omega, by go_num, HNX.out HC.out⟩, by simp [intOf]; omega⟩
                    · by_cases a4 : d = 45
                      · have HC : Hid (chrB d = true) := Lib.hid (by simp [chrB, a4])
                        have b0 : (d : Int) < 97 := by omega
                        have b1 : (d : Int) < 48 := by omega
                        have b2 : ((d : Int) != 45) = false := by rw [a4]; rfl
                        clear a1 a2 a3 a4
                        go_wp2_with fail
                        exact ⟨⟨j + 1, by omega, by go_num, HNX.out HC.out⟩, by simp [intOf]; omega⟩
                      · have HC : Hid (chrB d = false) := Lib.hid (by simp [chrB, letB, digB]; omega)
                        have HE := Lib.hid (HBD.out HC.out)
                        have b2 : ((d : Int) != 45) = true := by simp; omega
                        have a5 : ((d : Int) < 48) ∨ (¬ (d : Int) < 48 ∧ (57 : Int) < d) := by omega
                        clear a1 a3 a4
                        rcases a2 with a2 | ⟨a2, a2'⟩
                        all_goals (
                          rcases a5 with a5 | ⟨a5, a5'⟩
                          all_goals (first | (exfalso; omega) | skip)
                          all_goals (
                            go_wp2_with fail
                            refine bodyPost_ret (v := .tuple #[.agg #[.string { data := #[] }, .slice none 0 0, .int .i64 0], .int .i64 11]) (by simp [results, Tryd.results13, go_sem, r0, r1, r2]) rfl ⟨.inl ⟨by rw [HE.out]; decide, by rw [HE.out]⟩, ?_⟩
                            exact ((HBX.out.setCell (p := ⟨w.heap.size, 0, none⟩) (Nat.le_refl _) _).setCell (p := ⟨w.heap.size, 1, none⟩) (Nat.le_refl _) _).setCell (p := ⟨w.heap.size, 2, none⟩) (Nat.le_refl _) _))
                · have hjk2 : ¬ (j : Int) < k := by omega
                  obtain rfl : j = k := by omega
                  have hall : nm.all chrB = true := List.all_eq_true.2 fun c hc => by
                    obtain ⟨i, hi⟩ := List.mem_iff_getElem?.1 hc
                    exact HOK.out i c (by have := (List.getElem?_eq_some_iff.1 hi).1; omega) hi
                  have HTE := Lib.hid (HTX.out hall)
                  clear hall
                  have lF := tFull_lit
                  have lC := tCol_lit
                  obtain ⟨X1, hX1⟩ : ∃ W, W = X.alloc (.cells #[.string (tx KL), .bool false] 65) := ⟨_, rfl⟩
                  have hbx : Below X.heap.size X X1 := by rw [hX1]; exact (Below.refl _ _).alloc (Nat.le_refl _) _
                  obtain ⟨rd, hrd⟩ : ∃ b, b = X.heap.size := ⟨_, rfl⟩
                  have R1 : Hid (RdP X1 rd (some KL)) := Lib.hid ⟨KL, false, HDB.out, hdl, by rw [hX1, hrd]; exact Blk.new _ _ _, fun K hK => by injection hK with hK; exact ⟨hK, rfl⟩, fun h => by cases h⟩
                  have BC1 := Lib.hid (BC.out.next hbx)
                  have BR1 := Lib.hid (BRX.out.next hbx)
                  have HB1 := Lib.hid (below_step HBX.out HBX.out.size hbx)
                  have HX1 := Lib.hid hX1
                  have HRD := Lib.hid hrd
                  have ncr : cb ≠ rd := by omega
                  have nwr : w.heap.size ≠ rd := by omega
                  have hrw : w.heap.size ≤ rd := by omega
                  clear hX1 hbx hrd r0 r1 r2 f0 f1 f2
                  go_wp2_with fail
                  rw [← HX1.out, ← HRD.out]
                  refine (takeP_any rd tFull (some KL) X1 byt_fix.2.2.2.2.2.1 R1.out).mono ?_
                  rintro e X2 ⟨rfl, hr2, hg2⟩
                  have R2 := Lib.hid hr2
                  have BC2 := Lib.hid (BC1.out.turn hg2 ncr)
                  have BR2 := Lib.hid (BR1.out.turn hg2 nwr)
                  have HB2 := Lib.hid (HB1.out.trans (turn_under hg2 hrw HB1.out.size))
                  clear hr2 hg2 R1 BC1 BR1
                  go_wp2_with fail
                  refine (numberP_any rd _ X2 R2.out).mono ?_
                  rintro e X3 ⟨fn, rfl, hfn, hr3, hfx, hg3⟩
                  have R3 := Lib.hid hr3
                  have BC3 := Lib.hid (BC2.out.turn hg3 ncr)
                  have BR3 := Lib.hid (BR2.out.turn hg3 nwr)
                  have HB3 := Lib.hid (HB2.out.trans (turn_under hg3 hrw HB2.out.size))
                  have HFX := Lib.hid hfx
                  clear hr3 hg3 R2 BC2 BR2 hfx
                  have q2 := BC3.out.cell 2
                  have y2 := BC3.out.frozen 2
                  simp at q2
                  obtain ⟨X4, hX4⟩ : ∃ W, W = X3.setCell ⟨cb, 2, none⟩ (.int .i64 (fn : Int)) := ⟨_, rfl⟩
                  go_wp2_with fail
                  rw [← hX4]
                  have HL0 : Hid (¬ 1024 < L.length) := Lib.hid (by have := H0.out; omega)
                  obtain ⟨o3, ho3⟩ : ∃ o, o = ((((some KL).bind (fixP tFull)).bind numP).map fun x => x.2) := ⟨_, rfl⟩
                  have R4 : RdP X4 rd o3 := by rw [ho3, hX4]; exact R3.out.turn (turn_set (turn_below (Below.refl _ _)) _ _) (fun e => ncr e.symm)
                  have BC4 : Hid (Blk X4 cb 24 #[.string (tx nm), .slice none 0 0, .int .i64 (fn : Int)]) := Lib.hid (by rw [hX4]; exact BC3.out.set_ 2 _)
                  have BR4 := Lib.hid (show Blk X4 w.heap.size 24 #[.string { data := #[] }, .slice none 0 0, .int .i64 0] by rw [hX4]; exact BR3.out.far (p := ⟨cb, 2, none⟩) (by show w.heap.size ≠ cb; omega) _)
                  have HB4 := Lib.hid (show Below w.heap.size w X4 by rw [hX4]; exact HB3.out.setCell (p := ⟨cb, 2, none⟩) (by show w.heap.size ≤ cb; omega) _)
                  have HO3 := Lib.hid ho3
                  have hc5 := Lib.hid (takeP_any rd tCol o3 X4 byt_fix.2.2.2.2.2.2 R4)
                  clear ho3 R4 hX4 q2 y2 R3 BC3 BR3 HB3
                  go_wp2_with fail
                  refine hc5.out.mono ?_
                  rintro e X5 ⟨rfl, hr5, hg5⟩
                  have BC5 := BC4.out.turn hg5 ncr
                  have BR5 := BR4.out.turn hg5 nwr
                  have HB5 := HB4.out.trans (turn_under hg5 hrw HB4.out.size)
                  have hrd5 : rd < X5.heap.size := hr5.lt
                  have HI := Lib.hid (start_pi (w := w) (L := L) HTE.out HO3.out HFX.out hr5 BC5 BR5 HB5)
                  clear hc5 hr5 hg5 BC5 BR5 HB5 BC4 BR4 HB4 HO3 HFX HTE
                  obtain ⟨bs, hbs⟩ : ∃ b, b = X5.heap.size := ⟨_, rfl⟩
                  rw [← hbs] at hrd5 HI
                  have hcr : cb < rd := by rw [HRD.out]; exact zxc
                  have hwc : w.heap.size < cb := by omega
                  have hsp := lt_trans3 hwc hcr hrd5
                  obtain ⟨M, hM, HIM⟩ := HI.out
                  have HIH := Lib.hid HIM
                  clear HI HIM hbs
                  go_wp2_with fail
                  go_loopw [] (fun wr => PI w nm fn rd cb bs M L wr) (fun wr => badM wr rd)
                  case atStart => exact HIH.out
                  case round =>
                    obtain ⟨o, Rv, v, hrp, hbc, hown, hrl, hwf, hbr, hbw, hbsz, hso, hno⟩ := hrel
                    rcases o with _ | K
                    · have hb := hrp.bad
                      have HE11 := Lib.hid (prs_none HL0.out (hno rfl))
                      have HBW := Lib.hid hbw
                      have r0 := hbr.cell 0
                      have r1 := hbr.cell 1
                      have r2 := hbr.cell 2
                      have f0 := hbr.frozen 0
                      have f1 := hbr.frozen 1
                      have f2 := hbr.frozen 2
                      simp at r0 r1 r2
                      clear hrp hbc hown hrl hwf hbr hbw hbsz hso hno HIH
                      go_wp2_with fail
                      refine bodyPost_ret (v := .tuple #[.agg #[.string { data := #[] }, .slice none 0 0, .int .i64 0], .int .i64 11]) (by simp [results, Tryd.results13, go_sem, r0, r1, r2]) rfl ⟨.inl ⟨by rw [HE11.out]; decide, by rw [HE11.out]⟩, ?_⟩
                      exact ((HBW.out.setCell (p := ⟨w.heap.size, 0, none⟩) (Nat.le_refl _) _).setCell (p := ⟨w.heap.size, 1, none⟩) (Nat.le_refl _) _).setCell (p := ⟨w.heap.size, 2, none⟩) (Nat.le_refl _) _
                    · obtain ⟨hb, hs⟩ := hrp.good
                      obtain ⟨P, rfl, hPl, hPt⟩ := hso K rfl
                      have hpm := hrp.meas
                      have HPM := Lib.hid hpm
                      have HPT := Lib.hid hPt
                      have HWF := Lib.hid hwf
                      have hKB := hrp.byt
                      have HKB := Lib.hid hKB
                      have hlo := rowOwn_lo hown
                      have hhi : ∀ k, v.ownBlock = some k → k < wr.heap.size := fun k e => (World.ownsRow.lt hown k e).2
                      obtain ⟨ub, hub⟩ : ∃ b, b = wr.heap.size := ⟨_, rfl⟩
                      obtain ⟨W1, hW1⟩ : ∃ W, W = wr.alloc (.cells #[.float .f64 0, .int .i64 0, .int .i64 0, .int .i64 0] 48) := ⟨_, rfl⟩
                      have hb1 : Below wr.heap.size wr W1 := by rw [hW1]; exact (Below.refl _ _).alloc (Nat.le_refl _) _
                      have HOD := Lib.hid (show Od w rd cb bs ub v from ⟨hwc, hcr, hrd5, by rw [hub]; exact hbsz, hlo, by rw [hub]; exact hhi⟩)
                      have HF1 := Lib.hid (show FZ w nm fn cb bs ub (mkR P) v W1 0 0 0 0 from ⟨hbc.next hb1, hown.next hb1, hbr.next hb1, by rw [hW1, hub]; exact Blk.new _ _ _, below_step hbw hbw.size hb1, Nat.le_trans hbsz hb1.size⟩)
                      have HR1 := Lib.hid (hrp.next hb1)
                      have HW1 := Lib.hid hW1
                      have HUB := Lib.hid hub
                      have q0 : W1.cell? ⟨rd, 0, none⟩ = some (.string (tx K)) := (hb1.cell (p := ⟨rd, 0, none⟩) (by show rd < wr.heap.size; omega)).trans hs
                      have sK := tx_size K
                      have HPL := Lib.hid hPl
                      have lA := tAll_lit
                      have lP := tPct_lit
                      have lS := tSl_lit
                      have lG := tGt_lit
                      have lO := tCo_lit
                      have lN := tNil_lit
                      have hst := stF
                      clear hbc hown hwf hbr hbw hbsz hso hno HIH hrp hPt hpm hlo hhi hW1 hb1 hub hKB hPl
                      go_upto_region 21 with fail
                      rw [← HW1.out, ← HUB.out]
                      clear hs hb
                      obtain ⟨qa, hqa⟩ : ∃ q, q = decide (K.head? = some 97) := ⟨_, rfl⟩
                      have HQA := Lib.hid hqa
                      clear hqa
                      go_cut [97] (fun q wx => q = .bool qa ∧ wx = W1)
                      case first =>
                        have hqa := HQA.out
                        clear HQA
                        rcases K with _ | ⟨d, K'⟩
                        · have hq2 : qa = false := hqa
                          clear hqa
                          subst hq2
                          have hl0 : ¬ (0 : Int) < (([] : List Nat).length : Int) := by simp
                          go_wp2_with fail
                          go_meet
                          exact ⟨rfl, rfl⟩
                        · obtain ⟨hi, hz⟩ := tx_byte HKB.out (L := d :: K') (i := 0) (c := d) rfl
                          have hl0 : (0 : Int) < ((d :: K').length : Int) := by rw [List.length_cons]; omega
                          have hl1 : 0 ≤ (0 : Int) ∧ (0 : Int) < ((d :: K').length : Int) := ⟨by decide, hl0⟩
                          have he : (some d = some 97) ↔ ((d : Int) = 97) := by simp; omega
                          rcases hd : decide (d = 97) with _ | _
                          · have hq2 : qa = false := by rw [hqa]; have := of_decide_eq_false hd; simp [this]
                            clear hqa
                            subst hq2
                            have h9 : ((d : Int) == 97) = false := by have := of_decide_eq_false hd; rw [beq_eq_false_iff_ne]; omega
                            clear he hd
                            go_wp2_with fail
                            go_meet
                            exact ⟨rfl, rfl⟩
                          · have hq2 : qa = true := by rw [hqa]; have := of_decide_eq_true hd; simp [this]
                            clear hqa
                            subst hq2
                            have h9 : ((d : Int) == 97) = true := by have := of_decide_eq_true hd; rw [this]; rfl
                            clear he hd
                            go_wp2_with fail
                            go_meet
                            exact ⟨rfl, rfl⟩
                      case rest =>
                        obtain ⟨rfl, hwc2⟩ := hcut
                        rw [hwc2]
                        clear hwc2 q0
                        go_upto_if 97 with fail
                        go_cut [] (fun wx => ∃ (o : Option (List Nat)) (x : Nat), RdP wx rd o ∧ FZ w nm fn cb bs ub (mkR P) v wx x 0 0 0 ∧ x < 18446744073709551616 ∧ o = (shP K).map (·.2) ∧ ∀ y, shP K = some y → x = Sh.pctF y.1)
                        case first =>
                          rcases qa with _ | _
                          rotate_left
                          · have hh : K.head? = some 97 := of_decide_eq_true HQA.out.symm
                            obtain ⟨e1, e2⟩ := sh_all hh
                            have E1 := Lib.hid e1
                            have E2 := Lib.hid e2
                            have hc := Lib.hid (takeP_any rd tAll (some K) W1 byt_fix.1 HR1.out)
                            clear hh e1 e2
                            go_wp2_with fail
                            refine hc.out.mono ?_
                            rintro e W2 ⟨rfl, hr2, hg2⟩
                            have HR2 := Lib.hid hr2
                            have HF2 := Lib.hid (HF1.out.turn HOD.out hg2)
                            clear hc hr2 hg2
                            go_wp2_with fail
                            go_meet
                            exact ⟨_, 0, HR2.out, HF2.out, by omega, E1.out.symm, E2.out⟩
                          · have hh : ¬ K.head? = some 97 := of_decide_eq_false HQA.out.symm
                            have HH := Lib.hid hh
                            have hc := Lib.hid (numberP_any rd (some K) W1 HR1.out)
                            clear hh
                            go_wp2_with fail
                            refine hc.out.mono ?_
                            rintro e W2 ⟨n, rfl, hn9, hr2, hfx, hg2⟩
                            have HFX := Lib.hid (fun x hx => hfx x (by rw [Option.bind_some]; exact hx))
                            have HF2 := Lib.hid (HF1.out.turn HOD.out hg2)
                            have hc2 := Lib.hid (takeP_any rd tPct _ W2 byt_fix.2.1 hr2)
                            clear hc hr2 hg2 hfx
                            go_wp2_with fail
                            refine hc2.out.mono ?_
                            rintro e W3 ⟨rfl, hr3, hg3⟩
                            have HR3 := Lib.hid hr3
                            have HF3 := Lib.hid (HF2.out.turn HOD.out hg3)
                            have hpc := fun W => Sh.refPercent_any (n : Int) (by omega) (by omega) W
                            have HPX := Lib.hid (pcF_lt2 n)
                            obtain ⟨px, hpx⟩ : ∃ p, p = Sh.pcF (n : Int) := ⟨_, rfl⟩
                            obtain ⟨pe, hpe⟩ : ∃ p, p = Sh.pcE (n : Int) := ⟨_, rfl⟩
                            rw [← hpx, ← hpe] at hpc
                            have HPE := Lib.hid hpx
                            have rdl := hr3.lt
                            clear hc2 hr3 hg3 hpx hpe
                            by_cases hr : 1 ≤ n ∧ n ≤ 100
                            · have b1 : ¬ (n : Int) < 1 := by omega
                              have b2 : ¬ (100 : Int) < n := by omega
                              obtain ⟨e1, e2⟩ := sh_num HH.out HFX.out hr
                              have E1 := Lib.hid e1
                              have E2 := Lib.hid e2
                              have EP : Hid (px = Sh.pctF n) := Lib.hid (by rw [HPE.out]; unfold Sh.pcF; rw [if_pos (by omega), Int.toNat_natCast])
                              have y0 := HF3.out.2.2.2.1.cell 0
                              have z0 := HF3.out.2.2.2.1.frozen 0
                              simp at y0
                              clear hr e1 e2
                              go_wp2_with fail
                              refine (hpc _).mono ?_
                              rintro e w' ⟨rfl, rfl⟩
                              clear hpc
                              go_wp2_with fail
                              go_meet
                              refine ⟨_, px, HR3.out.far (p := ⟨ub, 0, none⟩) (by have := HOD.out; show rd ≠ ub; have := this.2.2.1; have := HOD.out.2.2.2.1; omega) _, HF3.out.put HOD.out 0 _ (HF3.out.2.2.2.1.set_ 0 _), by rw [HPE.out]; exact HPX.out, E1.out, fun y hy => by rw [EP.out]; exact E2.out y hy⟩
                            · have hb : ((n : Int) < 1) ∨ (¬ (n : Int) < 1 ∧ (100 : Int) < n) := by omega
                              have hs := sh_bad HH.out HFX.out hr
                              have HS := Lib.hid hs
                              have r1 : ∃ b, W3.cell? ⟨rd, 1, none⟩ = some (.bool b) ∧ W3.frozen? ⟨rd, 1, none⟩ = false := by
                                obtain ⟨L', b, _, _, h3, _⟩ := HR3.out
                                exact ⟨b, h3.cell 1, h3.frozen 1⟩
                              obtain ⟨b', r1, r2⟩ := r1
                              have nur : ub ≠ rd := by have := HOD.out.2.2.1; have := HOD.out.2.2.2.1; omega
                              have HF4 := Lib.hid (HF3.out.turn HOD.out (turn_set (turn_below (Below.refl _ _)) 1 (.bool true)))
                              have HR4 := Lib.hid HR3.out.spoil
                              have y0 := HF3.out.2.2.2.1.cell 0
                              have z0 := HF3.out.2.2.2.1.frozen 0
                              simp at y0
                              clear hr hs
                              rcases hb with b1 | ⟨b1, b2⟩
                              all_goals (
                                go_wp2_with fail
                                refine (hpc _).mono ?_
                                rintro e w' ⟨rfl, rfl⟩
                                go_wp2_with fail
                                go_meet
                                refine ⟨none, px, HR4.out.far (p := ⟨ub, 0, none⟩) (fun e => nur e.symm) _, HF4.out.put HOD.out 0 _ (HF4.out.2.2.2.1.set_ 0 _), by rw [HPE.out]; exact HPX.out, by rw [HS.out]; rfl, fun y hy => by rw [HS.out] at hy; cases hy⟩)
                        case rest =>
                          obtain ⟨o0, x, hr0, hf0, hx64, ho0, hxy⟩ := hcut
                          obtain ⟨W2, hW2⟩ : ∃ W, W = wc := ⟨_, rfl⟩
                          rw [← hW2] at hr0 hf0 ⊢
                          have nur : rd ≠ ub := by have h1 := HOD.out.2.2.1; have h2 := HOD.out.2.2.2.1; omega
                          have HR10 := Lib.hid hr0
                          have HF10 := Lib.hid hf0
                          have HO10 := Lib.hid ho0
                          have HXY := Lib.hid hxy
                          clear hr0 hf0 ho0 hxy hW2
                          have hc11 := Lib.hid (takeP_any rd tSl o0 W2 byt_fix.2.2.1 HR10.out)
                          go_wp2_with fail
                          refine hc11.out.mono ?_
                          rintro e W3 ⟨rfl, hr11, hg11⟩
                          have HF11 := Lib.hid (HF10.out.turn HOD.out hg11)
                          obtain ⟨o1, ho11⟩ : ∃ o, o = o0.bind (fixP tSl) := ⟨_, rfl⟩
                          rw [← ho11] at hr11
                          have HR11 := Lib.hid hr11
                          have HO11 := Lib.hid ho11
                          clear hc11 hr11 hg11 ho11
                          have hc12 := Lib.hid (numberP_any rd o1 W3 HR11.out)
                          go_wp2_with fail
                          refine hc12.out.mono ?_
                          rintro e W4 ⟨l, rfl, h9l, hr12, hx12, hg12⟩
                          have hf12 := HF11.out.turn HOD.out hg12
                          obtain ⟨o2, ho12⟩ : ∃ o, o = (o1.bind numP).map fun x => x.2 := ⟨_, rfl⟩
                          rw [← ho12] at hr12
                          obtain ⟨W5, hW5⟩ : ∃ W, W = W4.setCell ⟨ub, 1, none⟩ (.int .i64 (l : Int)) := ⟨_, rfl⟩
                          have HR12 := Lib.hid (show RdP W5 rd o2 by rw [hW5]; exact hr12.far (p := ⟨ub, 1, none⟩) (by show rd ≠ ub; exact nur) _)
                          have HF12 := Lib.hid (show FZ w nm fn cb bs ub (mkR P) v W5 x l 0 0 by rw [hW5]; exact hf12.put HOD.out 1 _ (hf12.2.2.2.1.set_ 1 _))
                          have y0 := hf12.2.2.2.1.cell 1
                          have z0 := hf12.2.2.2.1.frozen 1
                          simp at y0
                          have HO12 := Lib.hid ho12
                          have HX12 := Lib.hid hx12
                          have HWW5 := Lib.hid hW5
                          clear hc12 hr12 hg12 ho12 hx12 hf12 hW5
                          go_upto_region 30 with fail
                          rw [← HWW5.out]
                          clear y0 z0
                          have hc13 := Lib.hid (takeP_any rd tSl o2 W5 byt_fix.2.2.1 HR12.out)
                          go_wp2_with fail
                          refine hc13.out.mono ?_
                          rintro e W6 ⟨rfl, hr13, hg13⟩
                          have HF13 := Lib.hid (HF12.out.turn HOD.out hg13)
                          obtain ⟨o3, ho13⟩ : ∃ o, o = o2.bind (fixP tSl) := ⟨_, rfl⟩
                          rw [← ho13] at hr13
                          have HR13 := Lib.hid hr13
                          have HO13 := Lib.hid ho13
                          clear hc13 hr13 hg13 ho13
                          have hc14 := Lib.hid (numberP_any rd o3 W6 HR13.out)
                          go_wp2_with fail
                          refine hc14.out.mono ?_
                          rintro e W7 ⟨b, rfl, h9b, hr14, hx14, hg14⟩
                          have hf14 := HF13.out.turn HOD.out hg14
                          obtain ⟨o4, ho14⟩ : ∃ o, o = (o3.bind numP).map fun x => x.2 := ⟨_, rfl⟩
                          rw [← ho14] at hr14
                          obtain ⟨W8, hW8⟩ : ∃ W, W = W7.setCell ⟨ub, 2, none⟩ (.int .i64 (b : Int)) := ⟨_, rfl⟩
                          have HR14 := Lib.hid (show RdP W8 rd o4 by rw [hW8]; exact hr14.far (p := ⟨ub, 2, none⟩) (by show rd ≠ ub; exact nur) _)
                          have HF14 := Lib.hid (show FZ w nm fn cb bs ub (mkR P) v W8 x l b 0 by rw [hW8]; exact hf14.put HOD.out 2 _ (hf14.2.2.2.1.set_ 2 _))
                          have y0 := hf14.2.2.2.1.cell 2
                          have z0 := hf14.2.2.2.1.frozen 2
                          simp at y0
                          have HO14 := Lib.hid ho14
                          have HX14 := Lib.hid hx14
                          have HWW8 := Lib.hid hW8
                          clear hc14 hr14 hg14 ho14 hx14 hf14 hW8
                          go_upto_region 32 with fail
                          rw [← HWW8.out]
                          clear y0 z0
                          have hc15 := Lib.hid (takeP_any rd tGt o4 W8 byt_fix.2.2.2.1 HR14.out)
                          go_wp2_with fail
                          refine hc15.out.mono ?_
                          rintro e W9 ⟨rfl, hr15, hg15⟩
                          have HF15 := Lib.hid (HF14.out.turn HOD.out hg15)
                          obtain ⟨o5, ho15⟩ : ∃ o, o = o4.bind (fixP tGt) := ⟨_, rfl⟩
                          rw [← ho15] at hr15
                          have HR15 := Lib.hid hr15
                          have HO15 := Lib.hid ho15
                          clear hc15 hr15 hg15 ho15
                          have hc16 := Lib.hid (numberP_any rd o5 W9 HR15.out)
                          go_wp2_with fail
                          refine hc16.out.mono ?_
                          rintro e W10 ⟨t, rfl, h9t, hr16, hx16, hg16⟩
                          have hf16 := HF15.out.turn HOD.out hg16
                          obtain ⟨o6, ho16⟩ : ∃ o, o = (o5.bind numP).map fun x => x.2 := ⟨_, rfl⟩
                          rw [← ho16] at hr16
                          obtain ⟨W11, hW11⟩ : ∃ W, W = W10.setCell ⟨ub, 3, none⟩ (.int .i64 (t : Int)) := ⟨_, rfl⟩
                          have HR16 := Lib.hid (show RdP W11 rd o6 by rw [hW11]; exact hr16.far (p := ⟨ub, 3, none⟩) (by show rd ≠ ub; exact nur) _)
                          have HF16 := Lib.hid (show FZ w nm fn cb bs ub (mkR P) v W11 x l b t by rw [hW11]; exact hf16.put HOD.out 3 _ (hf16.2.2.2.1.set_ 3 _))
                          have y0 := hf16.2.2.2.1.cell 3
                          have z0 := hf16.2.2.2.1.frozen 3
                          simp at y0
                          have HO16 := Lib.hid ho16
                          have HX16 := Lib.hid hx16
                          have HWW11 := Lib.hid hW11
                          clear hc16 hr16 hg16 ho16 hx16 hf16 hW11
                          go_upto_region 34 with fail
                          rw [← HWW11.out]
                          clear y0 z0
                          have hst2 := rul_state HO10.out HXY.out HO11.out HO12.out HX12.out HO13.out HO14.out HX14.out HO15.out HO16.out HX16.out
                          have HST := Lib.hid hst2
                          clear hst2 HO10 HXY HO11 HO12 HX12 HO13 HO14 HX14 HO15 HO16 HX16
                          have lk := HOD.out
                          obtain ⟨bc, bo, bz, bu, bb, bsz⟩ := HF16.out
                          obtain ⟨A0, c0, rfl, _⟩ := bo.slice
                          have u1 := bc.cell 1
                          have y0 := bu.cell 0
                          have y1 := bu.cell 1
                          have y2 := bu.cell 2
                          have y3 := bu.cell 3
                          simp at u1 y0 y1 y2 y3
                          have hml : (mkR P).length ≤ 1024 := by rw [mkR_length]; have := HPL.out; omega
                          have hbx : Below W11.heap.size W11 (W11.alloc (.cells #[.float .f64 x, .int .i64 (l : Int), .int .i64 (b : Int), .int .i64 (t : Int)] 48)) := (Below.refl _ _).alloc (Nat.le_refl _) _
                          have HOX := Lib.hid (bo.next hbx)
                          have HSZ := Lib.hid (Nat.le_trans bsz hbx.size)
                          have HBX := Lib.hid hbx
                          have BO := Lib.hid bo
                          have BC := Lib.hid bc
                          have BZ := Lib.hid bz
                          have BB := Lib.hid bb
                          obtain ⟨i0, hi0, hz0, hzz1, hzz2⟩ := info_parts rule_info
                          clear bo bc bz bu bb bsz hbx lk
                          go_wp2_with (at_builtin; refine wpList_append_own _ rfl _ _ 22 rfl bs 48 i0 _ 4 32 Tryd.underlying22 hi0 hz0 hzz1 hzz2 rfl (by decide) (.slice A0 (mkR P).length c0) (mkR P).length (rulCells (mkR P)) rfl HOX.out ⟨W11.heap.size, 0, none⟩ 1 1 [.float .f64 x, .int .i64 (l : Int), .int .i64 (b : Int), .int .i64 (t : Int)] rfl rfl (new4 _ _ _ _ _ _ _ (by first | rfl | simp only [World.size_setCell])) (by simp [Value.oneCell']) (by simp only [maxLen]; omega) (by omega) HSZ.out ?_)
                          intro v1 w1 hown hgr _
                          have hlo := rowOwn_lo BO.out
                          have HN1 : Hid (ROwn w1 bs v1 (mkR P ++ [(⟨x, (l : Int), (b : Int), (t : Int)⟩ : Rl)])) := Lib.hid (by
                            unfold ROwn
                            rw [List.length_append, rulCells_append]
                            exact hown)
                          have hor := HOD.out
                          have bc1 := (BC.out.next HBX.out).turns hgr (fun k e => by have := hlo k e; have := hor.2.1; have := hor.2.2.1; omega)
                          have bz1 := (BZ.out.next HBX.out).turns hgr (fun k e => by have := hlo k e; have := hor.1; have := hor.2.1; have := hor.2.2.1; omega)
                          have bb1 : Below w.heap.size w w1 := (below_step BB.out BB.out.size HBX.out).grown hgr (Nat.le_trans BB.out.size HBX.out.size) (fun k e => by have := hlo k e; have := hor.1; have := hor.2.1; have := hor.2.2.1; omega)
                          have hr7 : RdP w1 rd o6 := by
                            obtain ⟨L', b', h1, h2, h3, h4⟩ := HR16.out.next HBX.out
                            exact ⟨L', b', h1, h2, h3.turns hgr (fun k e => by have := hlo k e; have := hor.2.2.1; omega), h4⟩
                          have hsz1 : bs ≤ w1.heap.size := Nat.le_trans HSZ.out hgr.size
                          obtain ⟨A1, c1, rfl, _⟩ := HN1.out.slice
                          obtain ⟨W12, hW12⟩ : ∃ W, W = w1.setCell ⟨cb, 1, none⟩ (.slice A1 (mkR P ++ [(⟨x, (l : Int), (b : Int), (t : Int)⟩ : Rl)]).length c1) := ⟨_, rfl⟩
                          have HR12 := Lib.hid (show RdP W12 rd o6 by rw [hW12]; exact hr7.far (p := ⟨cb, 1, none⟩) (by have := hor.2.1; show rd ≠ cb; omega) _)
                          have HB12 := Lib.hid (show Below w.heap.size w W12 by rw [hW12]; exact bb1.setCell (p := ⟨cb, 1, none⟩) (by have := hor.1; show w.heap.size ≤ cb; omega) _)
                          have BC12 := Lib.hid (show Blk W12 cb 24 #[.string (tx nm), .slice A1 (mkR P ++ [(⟨x, (l : Int), (b : Int), (t : Int)⟩ : Rl)]).length c1, .int .i64 (fn : Int)] by rw [hW12]; exact bc1.set_ 1 _)
                          have BZ12 := Lib.hid (show Blk W12 w.heap.size 24 #[.string { data := #[] }, .slice none 0 0, .int .i64 0] by rw [hW12]; exact bz1.far (p := ⟨cb, 1, none⟩) (by have := hor.1; show w.heap.size ≠ cb; omega) _)
                          have HO12 := Lib.hid (show ROwn W12 bs (.slice A1 (mkR P ++ [(⟨x, (l : Int), (b : Int), (t : Int)⟩ : Rl)]).length c1) (mkR P ++ [(⟨x, (l : Int), (b : Int), (t : Int)⟩ : Rl)]) by rw [hW12]; exact HN1.out.far_ (p := ⟨cb, 1, none⟩) (fun k e => by have := rowOwn_lo HN1.out k e; have := hor.2.1; have := hor.2.2.1; show k ≠ cb; omega) _)
                          have HS12 := Lib.hid (show bs ≤ W12.heap.size by rw [hW12, World.size_setCell]; exact hsz1)
                          have HWF12 := Lib.hid (show WfR (mkR P ++ [(⟨x, (l : Int), (b : Int), (t : Int)⟩ : Rl)]) from wf_snoc HWF.out hx64)
                          have u0 := bc1.cell 1
                          have u2 := bc1.frozen 1
                          simp at u0
                          have HW12 := Lib.hid hW12
                          obtain ⟨RV, hRV⟩ : ∃ R, R = mkR P ++ [(⟨x, (l : Int), (b : Int), (t : Int)⟩ : Rl)] := ⟨_, rfl⟩
                          rw [← hRV] at HW12 HWF12 HO12 BC12 HN1 ⊢
                          have HRV := Lib.hid hRV
                          clear hown hgr hlo hor bc1 bz1 bb1 hr7 hsz1 hW12 hRV u1 y0 y1 y2 y3 HN1 BO BC BZ BB HOX HSZ HBX HF16 HF15 HF14 HF13 HF12 HF11 HF10 HR16 HR15 HR14 HR13 HR11 HR10
                          go_upto_region 35 with fail
                          rw [← HW12.out]
                          clear u0 u2
                          obtain ⟨est, hval⟩ := HST.out
                          rcases erp : rulP K with _ | y
                          · rw [erp] at est
                            have est : o6 = none := est
                            subst est
                            have hb := HR12.out.bad
                            have HE11 := Lib.hid (prs_none HL0.out (by rw [HPT.out, rls_fall erp]; rfl))
                            have r0 := BZ12.out.cell 0
                            have r1 := BZ12.out.cell 1
                            have r2 := BZ12.out.cell 2
                            have f0 := BZ12.out.frozen 0
                            have f1 := BZ12.out.frozen 1
                            have f2 := BZ12.out.frozen 2
                            simp at r0 r1 r2
                            clear hval erp HST HPT HPM
                            go_wp2_with fail
                            refine bodyPost_ret (v := .tuple #[.agg #[.string { data := #[] }, .slice none 0 0, .int .i64 0], .int .i64 11]) (by simp [results, Tryd.results13, go_sem, r0, r1, r2, lN]) rfl ⟨.inl ⟨by rw [HE11.out]; decide, by rw [HE11.out]⟩, ?_⟩
                            exact ((HB12.out.setCell (p := ⟨w.heap.size, 0, none⟩) (Nat.le_refl _) _).setCell (p := ⟨w.heap.size, 1, none⟩) (Nat.le_refl _) _).setCell (p := ⟨w.heap.size, 2, none⟩) (Nat.le_refl _) _
                          · rw [erp] at est
                            have est : o6 = some y.2 := est
                            subst est
                            obtain ⟨hb, hs⟩ := HR12.out.good
                            have hKb := HR12.out.byt
                            have sy := tx_size y.2
                            have hq := tx_eq hKb (show Byt [] from fun c hc => by simp at hc)
                            obtain ⟨e1, e2, e3, e4⟩ := hval y erp
                            have HRV2 : Hid (RV = mkR (P ++ [y.1])) := Lib.hid (by rw [HRV.out, mkR_snoc2, e1, e2, e3, e4])
                            have HKL := Lib.hid (rulP_len erp)
                            have HMP : Hid (M - P.length = (M - P.length - 1) + 1) := Lib.hid (by have := HPL.out; have := rulP_len erp; omega)
                            have HERP := Lib.hid erp
                            clear e1 e2 e3 e4 hval HST erp
                            by_cases hy : y.2 = []
                            · have HTX : Hid (textP L = some (nm, fn, P ++ [y.1])) := Lib.hid (by rw [HPT.out, HMP.out, rls_last _ HERP.out hy]; rfl)
                              have HCK : Hid (prsE L = chk (tx nm) RV fn) := Lib.hid (by rw [HRV2.out]; exact prs_chk HL0.out HTX.out)
                              obtain ⟨A2, c2, e0, hra⟩ := HO12.out.slice
                              injection e0 with e0 _ e1
                              subst e0 e1
                              have hck := Lib.hid (refCheck_any (tx nm) A1 c1 RV fn W12 hra.lt HWF12.out (by rw [tx_size]; omega))
                              have HRA := Lib.hid hra
                              rw [decide_eq_true hy] at hq
                              have k0 := BC12.out.cell 0
                              have k1 := BC12.out.cell 1
                              have k2 := BC12.out.cell 2
                              simp at k0 k1 k2
                              clear hy hKb hra
                              go_wp2_with fail
                              refine hck.out.mono ?_
                              rintro e W13 ⟨rfl, hb13⟩
                              have HB13 := Lib.hid (below_step HB12.out HB12.out.size hb13)
                              have BZ13 := Lib.hid (BZ12.out.next hb13)
                              have BC13 := Lib.hid (BC12.out.next hb13)
                              have HRA13 := Lib.hid (HRA.out.keep (w' := W13) fun b o hb => hb13.cell (p := ⟨b, o, none⟩) hb.2)
                              have HS13 := Lib.hid hb13.size
                              have HWB := Lib.hid (show w.heap.size < bs by have := HOD.out.1; have := HOD.out.2.1; have := HOD.out.2.2.1; omega)
                              obtain ⟨E, hE⟩ : ∃ E, E = chk (tx nm) RV fn := ⟨_, rfl⟩
                              rw [← hE]
                              have HE := Lib.hid hE
                              clear hck hb13 hE k0 k1 k2 hb hs hq
                              have k0 := BC13.out.cell 0
                              have k1 := BC13.out.cell 1
                              have k2 := BC13.out.cell 2
                              simp at k0 k1 k2
                              have r0 := BZ13.out.cell 0
                              have r1 := BZ13.out.cell 1
                              have r2 := BZ13.out.cell 2
                              have f0 := BZ13.out.frozen 0
                              have f1 := BZ13.out.frozen 1
                              have f2 := BZ13.out.frozen 2
                              simp at r0 r1 r2
                              by_cases h5 : E = 0
                              · have e5 : (E != 0) = false := by rw [h5]; rfl
                                have HP0 : Hid (prsE L = 0) := Lib.hid (by rw [HCK.out, ← HE.out, h5])
                                have hno : ¬ Rng bs W12.heap.size w.heap.size := fun h => by have := h.1; have := HWB.out; omega
                                have HFIN : Hid (PrsOf L w (.returned (.tuple #[.agg #[.string (tx nm), .slice A1 RV.length c1, .int .i64 fn], .int .i64 0])) (((W13.setCell ⟨w.heap.size, 0, none⟩ (.string (tx nm))).setCell ⟨w.heap.size, 1, none⟩ (.slice A1 RV.length c1)).setCell ⟨w.heap.size, 2, none⟩ (.int .i64 fn))) := Lib.hid (by
                                  refine ⟨.inr ⟨HP0.out, nm, fn, P ++ [y.1], A1, c1, HTX.out, by rw [HRV2.out], ?_⟩, ?_⟩
                                  · have hr := ((HRA13.out.far (p := ⟨w.heap.size, 0, none⟩) hno (.string (tx nm))).far (p := ⟨w.heap.size, 1, none⟩) hno (.slice A1 RV.length c1)).far (p := ⟨w.heap.size, 2, none⟩) hno (.int .i64 fn)
                                    rw [← HRV2.out]
                                    refine RArr.mono (P := Rng bs W12.heap.size) hr fun b hb => ⟨by have := hb.1; have := HWB.out; omega, ?_⟩
                                    simp only [World.size_setCell]
                                    exact Nat.lt_of_lt_of_le hb.2 HS13.out
                                  · exact ((HB13.out.setCell (p := ⟨w.heap.size, 0, none⟩) (Nat.le_refl _) _).setCell (p := ⟨w.heap.size, 1, none⟩) (Nat.le_refl _) _).setCell (p := ⟨w.heap.size, 2, none⟩) (Nat.le_refl _) _)
                                clear h5 hno
                                go_wp2_with fail
                                exact bodyPost_ret (v := .tuple #[.agg #[.string (tx nm), .slice A1 RV.length c1, .int .i64 fn], .int .i64 0]) (by simp [results, Tryd.results13, go_sem, r0, r1, r2]) rfl HFIN.out
                              · have e5 : (E != 0) = true := by simpa using h5
                                have HPE : Hid (prsE L = E) := Lib.hid (by rw [HCK.out, HE.out])
                                have HE0 := Lib.hid h5
                                clear h5
                                go_wp2_with fail
                                refine bodyPost_ret (v := .tuple #[.agg #[.string { data := #[] }, .slice none 0 0, .int .i64 0], .int .i64 E]) (by simp [results, Tryd.results13, go_sem, r0, r1, r2, lN]) rfl ⟨.inl ⟨by rw [HPE.out]; exact HE0.out, by rw [HPE.out]⟩, ?_⟩
                                exact ((HB13.out.setCell (p := ⟨w.heap.size, 0, none⟩) (Nat.le_refl _) _).setCell (p := ⟨w.heap.size, 1, none⟩) (Nat.le_refl _) _).setCell (p := ⟨w.heap.size, 2, none⟩) (Nat.le_refl _) _
                            · rw [decide_eq_false hy] at hq
                              have HY := Lib.hid hy
                              have hc := Lib.hid (takeP_any rd tCo (some y.2) W12 byt_fix.2.2.2.2.1 HR12.out)
                              clear hy hKb
                              go_wp2_with fail
                              refine hc.out.mono ?_
                              rintro e W13 ⟨rfl, hr13, hg13⟩
                              have hor := HOD.out
                              have HNX : Hid (PI w nm fn rd cb bs M L W13 ∧ badM W13 rd < badM wr rd) := Lib.hid (by
                                rw [Option.bind_some] at hr13
                                have hkl := HKL.out
                                have hpl := HPL.out
                                have hrv : RV.length = P.length + 1 := by rw [HRV2.out, mkR_length]; simp
                                refine ⟨⟨fixP tCo y.2, RV, _, hr13, BC12.out.turn hg13 (by omega), HO12.out.keep fun g hb hl => hg13.block g hl (fun e => by injection e with e; omega), by omega, HWF12.out, BZ12.out.turn hg13 (by omega), HB12.out.trans (turn_under hg13 (by omega) HB12.out.size), Nat.le_trans HS12.out hg13.size, fun N hN => ?_, fun hN => ?_⟩, ?_⟩
                                · have e := fixP_of hN
                                  have el : y.2.length = 2 + N.length := by rw [e]; simp [tCo]; omega
                                  refine ⟨P ++ [y.1], HRV2.out, by simp; omega, ?_⟩
                                  rw [HPT.out, HMP.out, rls_more _ HERP.out HY.out, hN, Option.bind_some, show M - (P ++ [y.1]).length = M - P.length - 1 by simp; omega]
                                  cases rlsP (M - P.length - 1) N <;> simp
                                · rw [HPT.out, HMP.out, rls_more _ HERP.out HY.out, hN]
                                  rfl
                                · rw [HPM.out]
                                  rcases e : fixP tCo y.2 with _ | N
                                  · rw [e] at hr13
                                    rw [hr13.meas0]
                                    omega
                                  · rw [e] at hr13
                                    have e' := fixP_of e
                                    have el : y.2.length = 2 + N.length := by rw [e']; simp [tCo]; omega
                                    rw [hr13.meas]
                                    omega)
                              clear hc hr13 hg13 hor hb hs hq
                              go_wp2_with fail
                              exact HNX.out)
end Go.Proofs.YtodnicaidmilkaaDoor
