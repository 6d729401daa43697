/-
  The developers' readConfig, isAtEnd and Parse.
-/
import Derived.Test.YtodnicaidmilkaaDoorNRls
import Derived.Test.YtodnicaidmilkaaDoorNShow
namespace Go.Proofs.YtodnicaidmilkaaDoor
open Go.RowKit
set_option maxRecDepth 100000
set_option linter.unusedVariables false

/-- What Parse leaves. -/
def PrsOf (L : List Nat) (w : World) (e : Ending) (w' : World) : Prop :=
  ((prsE L ≠ 0 ∧ e = .returned (.tuple #[.agg #[.string { data := #[] }, .slice none 0 0, .int .i64 0], .int .i64 (prsE L)])) ∨
    (prsE L = 0 ∧ ∃ (nm : List Nat) (f : Nat) (R : List Pr) (A : Option Addr) (c : Nat), textP L = some (nm, f, R) ∧ e = .returned (.tuple #[.agg #[.string (tx nm), .slice A (mkR R).length c, .int .i64 f], .int .i64 0]) ∧ RArr w' (Rng w.heap.size w'.heap.size) A c (mkR R))) ∧ Below w.heap.size w w'
theorem atEnd_any (rd : Nat) (T : List Nat) (k : Nat) (w : World) (hl : T.length ≤ 1024) (hk : k ≤ T.length) (hB : RdD w rd T k) :
    Calls Tryd.prog 27 #[.pointer (some ⟨rd, 0, none⟩)] w fun e w' => e = .returned (.bool (decide (T.drop k = []))) ∧ Below w.heap.size w w' := by
  have q0 := hB.cell 0
  have q1 := hB.cell 1
  simp at q0 q1
  have s1 := tx_size T
  have he : decide (T.drop k = []) = ((k : Int) == (T.length : Int)) := by
    rw [Bool.eq_iff_iff, decide_eq_true_eq, beq_iff_eq, List.drop_eq_nil_iff]
    omega
  rw [he]
  rcases hv : ((k : Int) == (T.length : Int)) with _ | _
  all_goals
    clear he hB
    go_enter Tryd.func27, Tryd.ntmps27
    go_upto_region 1 with fail
    go_quiet (fail)
    go_wp2_with fail
    go_ret
    exact ⟨rfl, below_drewN (Below.refl _ _) _⟩
/-- What readConfig leaves. -/
def CfgO (w : World) (rd : Nat) (T : List Nat) (e : Ending) (w' : World) : Prop :=
  ∃ (nm : List Nat) (A : Option Addr) (c : Nat) (R : List Rl) (f : Nat) (ok : Bool), e = .returned (.tuple #[.agg #[.string (tx nm), .slice A R.length c, .int .i64 f], .bool ok]) ∧ RArr w' (Rng w.heap.size w'.heap.size) A c R ∧ RdO w' rd T ((cfgD T).map (·.2)) ∧
    (∀ y, cfgD T = some y → nm = y.1.1 ∧ R = mkR y.1.2.2 ∧ f = y.1.2.1 ∧ ok = true) ∧ (cfgD T = none → ok = false) ∧ w.grownBy w' (some rd)
theorem tFull_l2 : ({ data := #[32, 102, 117, 108, 108, 32] } : ByteArray) = tx tFull := by decide
theorem tCol_l2 : ({ data := #[58, 32] } : ByteArray) = tx tCol := by decide
set_option maxHeartbeats 8000000 in
theorem config13_any (rd : Nat) (T : List Nat) (w : World) (hT : Byt T) (hl : T.length ≤ 1024) (hB : RdD w rd T 0) :
    Calls Tryd.prog 26 #[.pointer (some ⟨rd, 0, none⟩)] w (CfgO w rd T) := by
  obtain ⟨U, hU⟩ : ∃ U, U = w.alloc (.cells #[.string { data := #[] }, .slice none 0 0, .int .i64 0] 24) := ⟨_, rfl⟩
  have BR0 : Blk U w.heap.size 24 #[.string { data := #[] }, .slice none 0 0, .int .i64 0] := by rw [hU]; exact Blk.new _ _ _
  have hb0 : Below w.heap.size w U := by rw [hU]; exact (Below.refl _ _).alloc (Nat.le_refl _) _
  have HG0 := Lib.hid (turn_below (r := some rd) hb0)
  have hrd := Blk.lt hB
  obtain ⟨V, hV⟩ : ∃ v, v = runL chrB 16 T := ⟨_, rfl⟩
  have h1 := runChr_any rd T 0 U hT hl (Nat.zero_le _) (Blk.next hB hb0)
  rw [List.drop_zero, ← hV, Nat.zero_add] at h1
  have hV16 : V.length ≤ 16 := by rw [hV]; exact run_le _ _ _
  have hVT : V.length ≤ T.length := by
    rw [hV]
    have := congrArg List.length (run_pre chrB 16 T)
    rw [List.length_append] at this
    omega
  have HC : Hid (cfgD T = if V.length = 0 then none else (afterD tFull (T.drop V.length)).bind fun x => (fixP tCol x.2).bind fun K => (drlsP 1025 K).bind fun y => some ((V, x.1, y.1), y.2)) := Lib.hid (by rw [hV]; rfl)
  have HU := Lib.hid hU
  have lF := tFull_l2
  have lC := tCol_l2
  have HA := Lib.hid (fun (q : Option (List Nat)) (W : World) h => afterO_any rd tFull T q W byt_fix.2.2.2.2.2.1 hT hl h)
  have HX := Lib.hid (fun (q : Option (List Nat)) (W : World) h => textO_any rd tCol T q W byt_fix.2.2.2.2.2.2 hT hl h)
  have HRL := Lib.hid (fun (K : List Nat) (W : World) h hK => rules13_any rd T K W hT hl h hK)
  have HCL := Lib.hid (fun (W : World) => clone_any V (by omega) W)
  clear hU hV hb0 hB
  go_enter Tryd.func26, Tryd.ntmps26
  go_wp2_with fail
  rw [← HU.out]
  go_wp2_with fail
  refine h1.mono ?_
  rintro e W1 ⟨rfl, hd1, hg1⟩
  have hr1 : RdO W1 rd T (some (T.drop V.length)) := ⟨V.length, hVT, hd1, fun K hK => by injection hK⟩
  have HG1 := Lib.hid (turn_trans HG0.out hg1)
  have BR1 := BR0.turn hg1 (by omega)
  have hc2 := Lib.hid (HA.out _ W1 hr1)
  clear h1 hd1 hg1 hr1 BR0
  go_wp2_with fail
  refine hc2.out.mono ?_
  rintro e W2 ⟨n, b2, rfl, hn9, hr2, hs2, hg2⟩
  have HS2 := Lib.hid (hs2 _ rfl)
  have HG2 := Lib.hid (turn_trans HG1.out hg2)
  have BR2 := BR1.turn hg2 (by omega)
  have HR2 := Lib.hid hr2
  have hc3 := Lib.hid (HX.out _ W2 hr2)
  have p0 := BR2.cell 0
  have p1 := BR2.cell 1
  have p2 := BR2.cell 2
  have f0 := BR2.frozen 0
  have f1 := BR2.frozen 1
  have f2 := BR2.frozen 2
  simp at p0 p1 p2
  have zr : w.heap.size < W2.heap.size := BR2.lt
  have HFAIL : Hid (∀ W, W2.grownBy W (some rd) → (∃ k, k ≤ T.length ∧ RdD W rd T k) → cfgD T = none → CfgO w rd T (.returned (.tuple #[.agg #[.string { data := #[] }, .slice none 0 0, .int .i64 0], .bool false])) (((W.setCell ⟨w.heap.size, 0, none⟩ (.string { data := #[] })).setCell ⟨w.heap.size, 1, none⟩ (.slice none 0 0)).setCell ⟨w.heap.size, 2, none⟩ (.int .i64 0))) := Lib.hid (fun W hg hk hno => by
    obtain ⟨k, k1, k2⟩ := hk
    refine ⟨[], none, 0, [], 0, false, rfl, RArr.nil _ _, ⟨k, k1, ((Blk.far k2 (p := ⟨w.heap.size, 0, none⟩) (by show rd ≠ w.heap.size; omega) _).far (p := ⟨w.heap.size, 1, none⟩) (by show rd ≠ w.heap.size; omega) _).far (p := ⟨w.heap.size, 2, none⟩) (by show rd ≠ w.heap.size; omega) _, fun K hK => (by rw [hno] at hK; cases hK)⟩, fun y hy => (by rw [hno] at hy; cases hy), fun _ => rfl, ?_⟩
    exact turn_new (turn_new (turn_new (turn_trans HG2.out hg) ⟨w.heap.size, 0, none⟩ (Nat.le_refl _) _) ⟨w.heap.size, 1, none⟩ (Nat.le_refl _) _) ⟨w.heap.size, 2, none⟩ (Nat.le_refl _) _)
  have BRX := Lib.hid BR2
  clear hc2 hr2 hs2 hg2 BR1 BR2
  by_cases hv0 : V.length = 0
  · have hd0 : decide (0 < V.length) = false := decide_eq_false (by omega)
    have HF := Lib.hid (HFAIL.out W2 (turn_below (Below.refl _ _)) (by obtain ⟨k, k1, k2, _⟩ := HR2.out; exact ⟨k, k1, k2⟩) (by rw [HC.out, if_pos hv0]))
    clear hv0
    go_wp2_with fail
    exact bodyPost_ret (v := .tuple #[.agg #[.string { data := #[] }, .slice none 0 0, .int .i64 0], .bool false]) (by simp [results, Tryd.results26, go_sem, p0, p1, p2]) rfl HF.out
  · have hd0 : decide (0 < V.length) = true := decide_eq_true (by omega)
    have HC1 : Hid (cfgD T = (afterD tFull (T.drop V.length)).bind fun x => (fixP tCol x.2).bind fun K => (drlsP 1025 K).bind fun y => some ((V, x.1, y.1), y.2)) := Lib.hid (by rw [HC.out, if_neg hv0])
    clear hv0
    rcases b2 with _ | _
    · have hno : afterD tFull (T.drop V.length) = none := by
        rcases e : afterD tFull (T.drop V.length) with _ | x
        · rfl
        · have := (HS2.out.1 x e).2
          cases this
      have HF := Lib.hid (HFAIL.out W2 (turn_below (Below.refl _ _)) (by obtain ⟨k, k1, k2, _⟩ := HR2.out; exact ⟨k, k1, k2⟩) (by rw [HC1.out, hno]; rfl))
      clear hno
      go_wp2_with fail
      exact bodyPost_ret (v := .tuple #[.agg #[.string { data := #[] }, .slice none 0 0, .int .i64 0], .bool false]) (by simp [results, Tryd.results26, go_sem, p0, p1, p2]) rfl HF.out
    · obtain ⟨x, hx⟩ : ∃ x, afterD tFull (T.drop V.length) = some x := by
        rcases e : afterD tFull (T.drop V.length) with _ | x
        · have := HS2.out.2 e
          cases this
        · exact ⟨x, rfl⟩
      have hxn := (HS2.out.1 x hx).1
      have HXX := Lib.hid hx
      have HXN := Lib.hid hxn
      clear hx hxn HS2
      go_wp2_with fail
      refine hc3.out.mono ?_
      rintro e W3 ⟨b3, rfl, hr3, hb3, hg3, hf3⟩
      have HB3 := Lib.hid (hb3 x.2 (by rw [Option.bind_some, HXX.out]; rfl))
      have HR3 := Lib.hid hr3
      have HGW := Lib.hid hg3
      have HG3 := Lib.hid (turn_trans HG2.out hg3)
      have BR3 := BRX.out.turn hg3 (by omega)
      clear hc3 hr3 hb3 hg3 hf3 p0 p1 p2 f0 f1 f2
      have p0 := BR3.cell 0
      have p1 := BR3.cell 1
      have p2 := BR3.cell 2
      have f0 := BR3.frozen 0
      have f1 := BR3.frozen 1
      have f2 := BR3.frozen 2
      simp at p0 p1 p2
      have zr : w.heap.size < W3.heap.size := BR3.lt
      rcases b3 with _ | _
      · have hno : fixP tCol x.2 = none := by
          rcases e : fixP tCol x.2 with _ | K
          · rfl
          · have := HB3.out
            rw [e] at this
            cases this
        have HF := Lib.hid (HFAIL.out W3 HGW.out (by obtain ⟨k, k1, k2, _⟩ := HR3.out; exact ⟨k, k1, k2⟩) (by rw [HC1.out, HXX.out, Option.bind_some, hno]; rfl))
        clear hno
        go_wp2_with fail
        exact bodyPost_ret (v := .tuple #[.agg #[.string { data := #[] }, .slice none 0 0, .int .i64 0], .bool false]) (by simp [results, Tryd.results26, go_sem, p0, p1, p2]) rfl HF.out
      · obtain ⟨K, hK⟩ : ∃ K, fixP tCol x.2 = some K := by
          rcases e : fixP tCol x.2 with _ | K
          · have := HB3.out
            rw [e] at this
            cases this
          · exact ⟨K, rfl⟩
        have HKK := Lib.hid hK
        have hr4 : RdO W3 rd T (some K) := HR3.out.imp fun M hM => by
          rw [Option.bind_some, HXX.out]
          show fixP tCol x.2 = _
          rw [HKK.out]; exact hM
        have hKl : K.length ≤ 1024 := by
          obtain ⟨k, k1, k2, k3⟩ := hr4
          rw [← k3 K rfl, List.length_drop]
          omega
        have hc4 := Lib.hid (HRL.out K W3 hr4 hKl)
        have BX3 := Lib.hid BR3
        clear hK hr4 BR3 p0 p1 p2 f0 f1 f2
        go_wp2_with fail
        refine hc4.out.mono ?_
        rintro e W4 ⟨A, c, R, ok, rfl, hra, hr5, hs5, hn5, hg5⟩
        have HRA := Lib.hid hra
        have HR5 := Lib.hid hr5
        have HS5 := Lib.hid hs5
        have HN5 := Lib.hid hn5
        have HG5 := Lib.hid (turn_trans HG3.out hg5)
        have BX4 := Lib.hid (BX3.out.turn hg5 (by omega))
        have HSZ := Lib.hid hg5.size
        have hcl := Lib.hid (HCL.out W4)
        clear hc4 hra hr5 hs5 hn5 hg5
        go_wp2_with fail
        refine hcl.out.mono ?_
        rintro e W5 ⟨rfl, hb6⟩
        have BR5 := BX4.out.next hb6
        have p0 := BR5.cell 0
        have p1 := BR5.cell 1
        have p2 := BR5.cell 2
        have f0 := BR5.frozen 0
        have f1 := BR5.frozen 1
        have f2 := BR5.frozen 2
        simp at p0 p1 p2
        have zr : w.heap.size < W5.heap.size := BR5.lt
        have HB6 := Lib.hid hb6
        have HEQ : Hid (cfgD T = (drlsP 1025 K).bind fun y => some ((V, n, y.1), y.2)) := Lib.hid (by rw [HC1.out, HXX.out, Option.bind_some, HKK.out, Option.bind_some, ← HXN.out])
        have z3 := BX3.out.lt
        have hno : ¬ Rng W3.heap.size W4.heap.size w.heap.size := fun h => by have := h.1; omega
        have HFIN : Hid (CfgO w rd T (.returned (.tuple #[.agg #[.string (tx V), .slice A R.length c, .int .i64 n], .bool ok])) (((W5.setCell ⟨w.heap.size, 0, none⟩ (.string (tx V))).setCell ⟨w.heap.size, 1, none⟩ (.slice A R.length c)).setCell ⟨w.heap.size, 2, none⟩ (.int .i64 n))) := Lib.hid (by
          refine ⟨V, A, c, R, n, ok, rfl, ?_, ?_, fun y hy => ?_, fun hy => ?_, ?_⟩
          · refine RArr.mono (P := Rng W3.heap.size W4.heap.size) ((((HRA.out.keep fun b o hb => HB6.out.cell (p := ⟨b, o, none⟩) hb.2).far (p := ⟨w.heap.size, 0, none⟩) hno _).far (p := ⟨w.heap.size, 1, none⟩) hno _).far (p := ⟨w.heap.size, 2, none⟩) hno _) fun b hb => ⟨by have := hb.1; omega, ?_⟩
            simp only [World.size_setCell]
            exact Nat.lt_of_lt_of_le hb.2 HB6.out.size
          · obtain ⟨k, k1, k2, k3⟩ := HR5.out.next HB6.out
            refine ⟨k, k1, ((Blk.far k2 (p := ⟨w.heap.size, 0, none⟩) (by show rd ≠ w.heap.size; omega) _).far (p := ⟨w.heap.size, 1, none⟩) (by show rd ≠ w.heap.size; omega) _).far (p := ⟨w.heap.size, 2, none⟩) (by show rd ≠ w.heap.size; omega) _, fun M hM => k3 M ?_⟩
            rw [HEQ.out] at hM
            rcases e : drlsP 1025 K with _ | y
            · rw [e] at hM; cases hM
            · rw [e] at hM; exact hM
          · rw [HEQ.out, Option.bind_eq_some_iff] at hy
            obtain ⟨z, hz, hy⟩ := hy
            injection hy with hy
            subst hy
            obtain ⟨e1, e2⟩ := HS5.out z hz
            exact ⟨rfl, e1, rfl, e2⟩
          · rw [HEQ.out] at hy
            rcases e : drlsP 1025 K with _ | y
            · exact HN5.out e
            · rw [e] at hy; cases hy
          · exact turn_new (turn_new (turn_new (turn_next HG5.out HB6.out) ⟨w.heap.size, 0, none⟩ (Nat.le_refl _) _) ⟨w.heap.size, 1, none⟩ (Nat.le_refl _) _) ⟨w.heap.size, 2, none⟩ (Nat.le_refl _) _)
        clear hcl hb6 BR5 hno
        go_wp2_with fail
        exact bodyPost_ret (v := .tuple #[.agg #[.string (tx V), .slice A R.length c, .int .i64 n], .bool ok]) (by simp [results, Tryd.results26, go_sem, p0, p1, p2]) rfl HFIN.out

theorem prs_long13 {L : List Nat} (h : 1024 < L.length) : prsE L = 9 := by unfold prsE; rw [if_pos h]
theorem prs_bad {L : List Nat} (h0 : ¬ 1024 < L.length) (h : textP L = none) : prsE L = 11 := by
  unfold prsE
  rw [if_neg h0, h]
theorem prs_chk {L nm : List Nat} {f : Nat} {R : List Pr} (h0 : ¬ 1024 < L.length) (h : textP L = some (nm, f, R)) : prsE L = chk (tx nm) (mkR R) f := by
  unfold prsE
  rw [if_neg h0, h]
theorem wf_mkR {L nm : List Nat} {f : Nat} {R : List Pr} (h : textP L = some (nm, f, R)) : WfR (mkR R) := fun j r hr => by
  obtain ⟨_, _, _, _, ho⟩ := textP_of h
  unfold mkR at hr
  rw [List.getElem?_map] at hr
  obtain ⟨x, hx, rfl⟩ := Option.map_eq_some_iff.1 hr
  exact pctF_lt x.p (ho x (List.mem_iff_getElem?.2 ⟨j, hx⟩)).1
set_option maxHeartbeats 8000000 in
theorem parse_any (L : List Nat) (w : World) (hL : Byt L) (hl : L.length ≤ 9223372036854775807) :
    Calls Tryd.prog 12 #[.string (tx L)] w (PrsOf L w) := by
  have s1 := tx_size L
  by_cases h0 : (1024 : Int) < L.length
  · have HE := Lib.hid (prs_long13 (L := L) (by omega))
    clear hL
    go_enter Tryd.func12, Tryd.ntmps12
    go_wp2_with fail
    refine bodyPost_ret (v := .tuple #[.agg #[.string { data := #[] }, .slice none 0 0, .int .i64 0], .int .i64 9]) (by simp [results, Tryd.results12, go_sem]) rfl ⟨.inl ⟨by rw [HE.out]; decide, by rw [HE.out]⟩, ?_⟩
    exact (Below.refl _ _).alloc (Nat.le_refl _) _
  · have hl2 : L.length ≤ 1024 := by omega
    obtain ⟨W1, hW1⟩ : ∃ W, W = (w.alloc (.cells #[.string { data := #[] }, .slice none 0 0, .int .i64 0] 24)).alloc (.cells #[.string (tx L), .int .i64 0] 60) := ⟨_, rfl⟩
    have hb1 : Below w.heap.size w W1 := by rw [hW1]; exact ((Below.refl _ _).alloc (Nat.le_refl _) _).alloc (by simp) _
    obtain ⟨rd, hrd⟩ : ∃ r, r = w.heap.size + 1 := ⟨_, rfl⟩
    have BR1 : Blk W1 w.heap.size 24 #[.string { data := #[] }, .slice none 0 0, .int .i64 0] := by rw [hW1]; exact (Blk.new _ _ _).alloc _
    have BD1 : RdD W1 rd L 0 := by rw [hW1, hrd]; exact Blk.newAt _ _ _ _ (by simp)
    have hc := Lib.hid (config13_any rd L W1 hL hl2 BD1)
    have HB1 := Lib.hid hb1
    have z1 := BR1.lt
    have HRD := Lib.hid hrd
    have HW1 := Lib.hid hW1
    have H0 := Lib.hid (show ¬ 1024 < L.length by omega)
    have zrd : rd < W1.heap.size := Blk.lt BD1
    have nwr : w.heap.size ≠ rd := by rw [HRD.out]; omega
    have hrw : w.heap.size ≤ rd := by rw [HRD.out]; omega
    have BRX := Lib.hid BR1
    clear hW1 hrd hb1 BD1 BR1
    go_enter Tryd.func12, Tryd.ntmps12
    go_wp2_with fail
    rw [← HW1.out, ← HRD.out]
    refine hc.out.mono ?_
    rintro e W2 ⟨nm, A, c, R, f, ok, rfl, hra, hr2, hs2, hn2, hg2⟩
    have HRA := Lib.hid hra
    have HR2 := Lib.hid hr2
    have HS2 := Lib.hid hs2
    have HN2 := Lib.hid hn2
    have BR2 := BRX.out.turn hg2 nwr
    have HB2 := Lib.hid (HB1.out.trans (turn_under hg2 hrw HB1.out.size))
    obtain ⟨W3, hW3⟩ : ∃ W, W = W2.alloc (.cells #[.string (tx nm), .slice A R.length c, .int .i64 (f : Int)] 24) := ⟨_, rfl⟩
    obtain ⟨cb, hcb⟩ : ∃ b, b = W2.heap.size := ⟨_, rfl⟩
    have hb3 : Below W2.heap.size W2 W3 := by rw [hW3]; exact (Below.refl _ _).alloc (Nat.le_refl _) _
    have BC3 := Lib.hid (show Blk W3 cb 24 #[.string (tx nm), .slice A R.length c, .int .i64 (f : Int)] by rw [hW3, hcb]; exact Blk.new _ _ _)
    have BR3 := Lib.hid (BR2.next hb3)
    have HB3 := Lib.hid (below_step HB2.out HB2.out.size hb3)
    have HR3 := Lib.hid (hr2.next hb3)
    have HRA3 := Lib.hid (hra.keep (w' := W3) fun b o hb => hb3.cell (p := ⟨b, o, none⟩) hb.2)
    have HSZ := Lib.hid hg2.size
    have HSZ3 := Lib.hid hb3.size
    have HW3 := Lib.hid hW3
    have HCB := Lib.hid hcb
    have zcb : W1.heap.size ≤ cb := by have := hg2.size; omega
    have p0 := BR3.out.cell 0
    have p1 := BR3.out.cell 1
    have p2 := BR3.out.cell 2
    have f0 := BR3.out.frozen 0
    have f1 := BR3.out.frozen 1
    have f2 := BR3.out.frozen 2
    simp at p0 p1 p2
    have zr : w.heap.size < W3.heap.size := BR3.out.lt
    have HFL : Hid (∀ (W : World) (E : Int), Below w.heap.size w W → prsE L = E → E ≠ 0 → PrsOf L w (.returned (.tuple #[.agg #[.string { data := #[] }, .slice none 0 0, .int .i64 0], .int .i64 E])) (((W.setCell ⟨w.heap.size, 0, none⟩ (.string { data := #[] })).setCell ⟨w.heap.size, 1, none⟩ (.slice none 0 0)).setCell ⟨w.heap.size, 2, none⟩ (.int .i64 0))) := Lib.hid fun W E hb he hne => by
      refine ⟨.inl ⟨by rw [he]; exact hne, by rw [he]⟩, ?_⟩
      exact ((hb.setCell (p := ⟨w.heap.size, 0, none⟩) (Nat.le_refl _) _).setCell (p := ⟨w.heap.size, 1, none⟩) (Nat.le_refl _) _).setCell (p := ⟨w.heap.size, 2, none⟩) (Nat.le_refl _) _
    clear hc hra hr2 hs2 hn2 hg2 hb3 hW3 hcb BR2
    rcases ok with _ | _
    · have hno : cfgD L = none := by
        rcases e : cfgD L with _ | y
        · rfl
        · have := (HS2.out y e).2.2.2
          cases this
      have HF := Lib.hid (HFL.out W3 11 HB3.out (prs_bad H0.out (by rw [← textD_is hl2]; unfold textD; rw [hno]; rfl)) (by decide))
      clear hno
      go_upto_region 5 with fail
      rw [← HW3.out]
      go_wp2_with fail
      exact bodyPost_ret (v := .tuple #[.agg #[.string { data := #[] }, .slice none 0 0, .int .i64 0], .int .i64 11]) (by simp [results, Tryd.results12, go_sem, p0, p1, p2]) rfl HF.out
    · obtain ⟨y, hy⟩ : ∃ y, cfgD L = some y := by
        rcases e : cfgD L with _ | y
        · have := HN2.out e
          cases this
        · exact ⟨y, rfl⟩
      obtain ⟨e1, e2, e3, _⟩ := HS2.out y hy
      obtain ⟨k, k1, k2, k3⟩ := HR3.out
      have k4 : L.drop k = y.2 := k3 y.2 (by rw [hy]; rfl)
      have hc := Lib.hid (atEnd_any rd L k W3 hl2 k1 k2)
      rw [k4] at hc
      have HY := Lib.hid hy
      have E1 := Lib.hid e1
      have E2 := Lib.hid e2
      have E3 := Lib.hid e3
      clear hy e1 e2 e3 k1 k2 k3 k4 HS2 HN2
      rcases hend : decide (y.2 = []) with _ | _
      · have hne : ¬ y.2 = [] := of_decide_eq_false hend
        have HTP : Hid (prsE L = 11) := Lib.hid (prs_bad H0.out (by rw [← textD_is hl2]; unfold textD; rw [HY.out, Option.bind_some, if_neg hne]))
        rw [hend] at hc
        clear hend hne
        go_wp2_with fail
        rw [← HW3.out]
        go_wp2_with fail
        refine hc.out.mono ?_
        rintro e W4 ⟨rfl, hb4⟩
        have HF := Lib.hid (HFL.out W4 11 (below_step HB3.out HB3.out.size hb4) HTP.out (by decide))
        have BR4 := BR3.out.next hb4
        clear hc hb4 p0 p1 p2 f0 f1 f2
        have p0 := BR4.cell 0
        have p1 := BR4.cell 1
        have p2 := BR4.cell 2
        have f0 := BR4.frozen 0
        have f1 := BR4.frozen 1
        have f2 := BR4.frozen 2
        simp at p0 p1 p2
        have zr : w.heap.size < W4.heap.size := BR4.lt
        clear BR4
        go_wp2_with fail
        exact bodyPost_ret (v := .tuple #[.agg #[.string { data := #[] }, .slice none 0 0, .int .i64 0], .int .i64 11]) (by simp [results, Tryd.results12, go_sem, p0, p1, p2]) rfl HF.out
      · have hne : y.2 = [] := of_decide_eq_true hend
        have HTP : Hid (textP L = some y.1) := Lib.hid (by rw [← textD_is hl2]; unfold textD; rw [HY.out, Option.bind_some, if_pos hne])
        rw [hend] at hc
        clear hend hne
        go_wp2_with fail
        rw [← HW3.out]
        go_wp2_with fail
        refine hc.out.mono ?_
        rintro e W4 ⟨rfl, hb4⟩
        have HB4 := Lib.hid (below_step HB3.out HB3.out.size hb4)
        have BR4 := Lib.hid (BR3.out.next hb4)
        have BC4 := Lib.hid (BC3.out.next hb4)
        have hra4 : RArr W4 (Rng W1.heap.size W2.heap.size) A c R := HRA3.out.keep fun b o hb => hb4.cell (p := ⟨b, o, none⟩) (Nat.lt_of_lt_of_le hb.2 HSZ3.out)
        have hwf : WfR R := by rw [E2.out]; exact wf_mkR (nm := y.1.1) (f := y.1.2.1) (R := y.1.2.2) HTP.out
        have hch := Lib.hid (check_any (tx nm) A c R (f : Int) W4 hra4.lt hwf)
        have HRA4 := Lib.hid hra4
        have HCK : Hid (prsE L = chk (tx nm) R f) := Lib.hid (by rw [E1.out, E2.out, E3.out]; exact prs_chk (nm := y.1.1) (f := y.1.2.1) (R := y.1.2.2) H0.out HTP.out)
        have c0 := BC4.out.cell 0
        have c1 := BC4.out.cell 1
        have c2 := BC4.out.cell 2
        simp at c0 c1 c2
        rw [HCB.out] at c0 c1 c2
        have HSZ4 := Lib.hid (Nat.le_trans HSZ3.out hb4.size)
        have zc4 : W2.heap.size < W4.heap.size := by rw [← HCB.out]; exact BC4.out.lt
        clear hc hb4 hra4 hwf p0 p1 p2 f0 f1 f2
        go_wp2_with fail
        refine hch.out.mono ?_
        rintro e W5 ⟨rfl, hb5⟩
        have HB5 := Lib.hid (below_step HB4.out HB4.out.size hb5)
        have BR5 := BR4.out.next hb5
        have BC5 := BC4.out.next hb5
        have HRA5 := Lib.hid (HRA4.out.keep (w' := W5) fun b o hb => hb5.cell (p := ⟨b, o, none⟩) (Nat.lt_of_lt_of_le hb.2 HSZ4.out))
        have HSZ5 := Lib.hid (Nat.le_trans HSZ4.out hb5.size)
        have p0 := BR5.cell 0
        have p1 := BR5.cell 1
        have p2 := BR5.cell 2
        have f0 := BR5.frozen 0
        have f1 := BR5.frozen 1
        have f2 := BR5.frozen 2
        simp at p0 p1 p2
        clear c0 c1 c2
        have c0 := BC5.cell 0
        have c1 := BC5.cell 1
        have c2 := BC5.cell 2
        simp at c0 c1 c2
        rw [HCB.out] at c0 c1 c2
        have zr : w.heap.size < W5.heap.size := BR5.lt
        have HCK2 := Lib.hid HCK.out
        obtain ⟨E, hE⟩ : ∃ E, E = chk (tx nm) R f := ⟨_, rfl⟩
        rw [← hE]
        have HE := Lib.hid hE
        clear hch hb5 BR5 BC5 hE
        by_cases h5 : E = 0
        · have e5 : (E != 0) = false := by rw [h5]; rfl
          have HP0 : Hid (prsE L = 0) := Lib.hid (by rw [HCK.out, ← HE.out, h5])
          have hno : ¬ Rng W1.heap.size W2.heap.size w.heap.size := fun h => by have := h.1; omega
          have HFIN : Hid (PrsOf L w (.returned (.tuple #[.agg #[.string (tx nm), .slice A R.length c, .int .i64 f], .int .i64 0])) (((W5.setCell ⟨w.heap.size, 0, none⟩ (.string (tx nm))).setCell ⟨w.heap.size, 1, none⟩ (.slice A R.length c)).setCell ⟨w.heap.size, 2, none⟩ (.int .i64 f))) := Lib.hid (by
            refine ⟨.inr ⟨HP0.out, y.1.1, y.1.2.1, y.1.2.2, A, c, HTP.out, by rw [E1.out, E2.out, E3.out], ?_⟩, ?_⟩
            · have hr := ((HRA5.out.far (p := ⟨w.heap.size, 0, none⟩) hno (.string (tx nm))).far (p := ⟨w.heap.size, 1, none⟩) hno (.slice A R.length c)).far (p := ⟨w.heap.size, 2, none⟩) hno (.int .i64 f)
              rw [← E2.out]
              refine RArr.mono (P := Rng W1.heap.size W2.heap.size) hr fun b hb => ⟨by have := hb.1; omega, ?_⟩
              simp only [World.size_setCell]
              exact Nat.lt_of_lt_of_le hb.2 HSZ5.out
            · exact ((HB5.out.setCell (p := ⟨w.heap.size, 0, none⟩) (Nat.le_refl _) _).setCell (p := ⟨w.heap.size, 1, none⟩) (Nat.le_refl _) _).setCell (p := ⟨w.heap.size, 2, none⟩) (Nat.le_refl _) _)
          clear h5 hno
          go_wp2_with fail
          exact bodyPost_ret (v := .tuple #[.agg #[.string (tx nm), .slice A R.length c, .int .i64 f], .int .i64 0]) (by simp [results, Tryd.results12, go_sem, p0, p1, p2]) rfl HFIN.out
        · have e5 : (E != 0) = true := by simpa using h5
          have HF := Lib.hid (HFL.out W5 E HB5.out (by rw [HCK.out, HE.out]) h5)
          clear h5
          go_wp2_with fail
          exact bodyPost_ret (v := .tuple #[.agg #[.string { data := #[] }, .slice none 0 0, .int .i64 0], .int .i64 E]) (by simp [results, Tryd.results12, go_sem, p0, p1, p2]) rfl HF.out
end Go.Proofs.YtodnicaidmilkaaDoor
