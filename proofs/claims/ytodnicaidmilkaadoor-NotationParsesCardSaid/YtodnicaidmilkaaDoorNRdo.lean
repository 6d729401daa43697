/-
  The developers' reader told by what is left of the text: some K, or nothing once something was not read: readText, readNumber, readNumberAfter, readShare, readRule.
-/
import Derived.Test.YtodnicaidmilkaaDoorNRdn
import Derived.Test.YtodnicaidmilkaaDoorCRul
import Derived.Deep.DeepCutAuto
namespace Go.Proofs.YtodnicaidmilkaaDoor
open Go.RowKit
set_option maxRecDepth 100000
set_option linter.unusedVariables false

def RdO (w : World) (rd : Nat) (T : List Nat) (o : Option (List Nat)) : Prop := ∃ k, k ≤ T.length ∧ RdD w rd T k ∧ ∀ K, o = some K → T.drop k = K
theorem RdO.next {w w' : World} {rd : Nat} {T : List Nat} {o : Option (List Nat)} (h : RdO w rd T o) (hb : Below w.heap.size w w') : RdO w' rd T o := by
  obtain ⟨k, h1, h2, h3⟩ := h
  exact ⟨k, h1, Blk.next h2 hb, h3⟩
theorem RdO.lt {w : World} {rd : Nat} {T : List Nat} {o : Option (List Nat)} (h : RdO w rd T o) : rd < w.heap.size := by
  obtain ⟨k, h1, h2, h3⟩ := h
  exact Blk.lt h2
/-- What a method leaves that answers whether it has read. -/
def BoO (w : World) (rd : Nat) (T : List Nat) (o : Option (List Nat)) (P : List Nat → Option (List Nat)) (e : Ending) (w' : World) : Prop := ∃ b : Bool, e = .returned (.bool b) ∧ RdO w' rd T (o.bind P) ∧ (∀ K, o = some K → b = (P K).isSome) ∧ w.grownBy w' (some rd) ∧ (b = false → RdO w' rd T o)
theorem textO_any (rd : Nat) (t T : List Nat) (o : Option (List Nat)) (w : World) (ht : Byt t) (hT : Byt T) (hl : T.length ≤ 1024) (h : RdO w rd T o) :
    Calls Tryd.prog 47 #[.pointer (some ⟨rd, 0, none⟩), .string (tx t)] w (BoO w rd T o (fixP t)) := by
  obtain ⟨k, h1, h2, h3⟩ := h
  refine (text_any rd t T k w ht hT hl h1 h2).mono ?_
  rintro e w' ⟨rfl, hb, hg⟩
  refine ⟨_, rfl, ?_, fun K hK => ?_, hg, fun hf => ⟨k, h1, by rw [hf, if_neg Bool.false_ne_true] at hb; exact hb, h3⟩⟩
  · by_cases hp : t.isPrefixOf (T.drop k) = true
    · rw [if_pos hp] at hb
      have hle : k + t.length ≤ T.length := by
        have := ((fixP_iff t (T.drop k)).1 hp).1
        rw [List.length_drop] at this
        omega
      refine ⟨_, hle, hb, fun K hK => ?_⟩
      rw [Option.bind_eq_some_iff] at hK
      obtain ⟨M, hM, hf⟩ := hK
      rw [← h3 M hM] at hf
      unfold fixP at hf
      rw [if_pos hp] at hf
      injection hf with hf
      rw [← hf, List.drop_drop]
    · rw [if_neg hp] at hb
      refine ⟨_, h1, hb, fun K hK => ?_⟩
      rw [Option.bind_eq_some_iff] at hK
      obtain ⟨M, hM, hf⟩ := hK
      rw [← h3 M hM] at hf
      unfold fixP at hf
      rw [if_neg hp] at hf
      cases hf
  · rw [← h3 K hK]
    unfold fixP
    rcases hp : t.isPrefixOf (T.drop k) with _ | _
    · rw [if_neg Bool.false_ne_true]; rfl
    · rw [if_pos rfl]; rfl
/-- What a method leaves that reads a number. -/
def NumO (w : World) (rd : Nat) (T : List Nat) (o : Option (List Nat)) (P : List Nat → Option (Nat × List Nat)) (e : Ending) (w' : World) : Prop :=
  ∃ (n : Nat) (b : Bool), e = .returned (.tuple #[.int .i64 n, .bool b]) ∧ n ≤ 9999 ∧ RdO w' rd T ((o.bind P).map (·.2)) ∧ (∀ K, o = some K → (∀ x, P K = some x → n = x.1 ∧ b = true) ∧ (P K = none → b = false)) ∧ w.grownBy w' (some rd)
theorem numO_any (rd : Nat) (T : List Nat) (o : Option (List Nat)) (w : World) (hT : Byt T) (hl : T.length ≤ 1024) (h : RdO w rd T o) :
    Calls Tryd.prog 61 #[.pointer (some ⟨rd, 0, none⟩)] w (NumO w rd T o dnumP) := by
  obtain ⟨k, h1, h2, h3⟩ := h
  refine (num13_any rd T k w hT hl h1 h2).mono ?_
  rintro e w' ⟨n, b, k', rfl, hn, hk', hb, hy, hno, hg⟩
  refine ⟨n, b, rfl, hn, ⟨k', hk', hb, fun K hK => ?_⟩, fun K hK => ⟨fun x hx => ?_, fun hx => ?_⟩, hg⟩
  · rw [Option.map_eq_some_iff] at hK
    obtain ⟨x, hx, rfl⟩ := hK
    rw [Option.bind_eq_some_iff] at hx
    obtain ⟨M, hM, hx⟩ := hx
    rw [← h3 M hM] at hx
    exact (hy x hx).2.2
  · rw [← h3 K hK] at hx
    exact ⟨(hy x hx).1, (hy x hx).2.1⟩
  · rw [← h3 K hK] at hx
    exact hno hx
theorem afterO_any (rd : Nat) (t T : List Nat) (o : Option (List Nat)) (w : World) (ht : Byt t) (hT : Byt T) (hl : T.length ≤ 1024) (h : RdO w rd T o) :
    Calls Tryd.prog 46 #[.pointer (some ⟨rd, 0, none⟩), .string (tx t)] w (NumO w rd T o (afterD t)) := by
  have h1 := textO_any rd t T o w ht hT hl h
  have hn := fun W h => numO_any rd T (o.bind (fixP t)) W hT hl h
  have HN := Lib.hid hn
  clear h hn
  go_enter Tryd.func46, Tryd.ntmps46
  go_wp2_with fail
  refine h1.mono ?_
  rintro e W1 ⟨b, rfl, hr, hb, hg, _⟩
  have HR := Lib.hid hr
  have HB := Lib.hid hb
  have HG := Lib.hid hg
  have hc := Lib.hid (HN.out W1 hr)
  clear h1 hr hb hg
  rcases b with _ | _
  · go_wp2_with fail
    go_ret2
    have hno : ∀ K, o = some K → afterD t K = none := fun K hK => by
      have := HB.out K hK
      unfold afterD
      rcases e : fixP t K with _ | M
      · rfl
      · rw [e] at this; cases this
    refine ⟨0, false, rfl, by omega, ?_, fun K hK => ⟨fun x hx => ?_, fun _ => rfl⟩, HG.out⟩
    · obtain ⟨k, k1, k2, k3⟩ := HR.out
      refine ⟨k, k1, k2, fun K hK => ?_⟩
      rw [Option.map_eq_some_iff] at hK
      obtain ⟨x, hx, _⟩ := hK
      rw [Option.bind_eq_some_iff] at hx
      obtain ⟨M, hM, hx⟩ := hx
      rw [hno M hM] at hx
      cases hx
    · rw [hno K hK] at hx
      cases hx
  · go_wp2_with fail
    refine hc.out.mono ?_
    rintro e W2 ⟨n, b, rfl, hn9, hr2, hs, hg2⟩
    have HR2 := Lib.hid hr2
    have HS := Lib.hid hs
    have HG2 := Lib.hid (turn_trans HG.out hg2)
    clear hc hr2 hs hg2
    go_wp2_with fail
    go_ret2
    refine ⟨n, b, rfl, hn9, ?_, fun K hK => ⟨fun x hx => ?_, fun hx => ?_⟩, HG2.out⟩
    · have e : o.bind (afterD t) = (o.bind (fixP t)).bind dnumP := by cases o <;> rfl
      rw [e]
      exact HR2.out
    · unfold afterD at hx
      rw [Option.bind_eq_some_iff] at hx
      obtain ⟨M, hM, hx⟩ := hx
      exact (HS.out M (by rw [hK, Option.bind_some, hM])).1 x hx
    · have := HB.out K hK
      rcases e : fixP t K with _ | M
      · rw [e] at this; cases this
      · exact (HS.out M (by rw [hK, Option.bind_some, e])).2 (by unfold afterD at hx; rw [e, Option.bind_some] at hx; exact hx)
/-- What readShare leaves. -/
def ShaO (w : World) (rd : Nat) (T : List Nat) (o : Option (List Nat)) (e : Ending) (w' : World) : Prop :=
  ∃ (x : Nat) (b : Bool), e = .returned (.tuple #[.float .f64 x, .bool b]) ∧ x < 18446744073709551616 ∧ RdO w' rd T ((o.bind dshP).map (·.2)) ∧ (∀ K, o = some K → (∀ y, dshP K = some y → x = Sh.pctF y.1 ∧ b = true) ∧ (dshP K = none → b = false)) ∧ w.grownBy w' (some rd)
theorem tAll_l2 : ({ data := #[97, 108, 108] } : ByteArray) = tx tAll := by decide
theorem tPct_l2 : ({ data := #[37] } : ByteArray) = tx tPct := by decide
theorem pctF_lt (p : Nat) (h : p ≤ 100) : Sh.pctF p < 18446744073709551616 := by
  have : ∀ p : Fin 101, Sh.pctF p < 18446744073709551616 := by decide +kernel
  exact this ⟨p, by omega⟩
theorem RdO.imp {w : World} {rd : Nat} {T : List Nat} {o o' : Option (List Nat)} (h : RdO w rd T o) (hi : ∀ K, o' = some K → o = some K) : RdO w rd T o' := by
  obtain ⟨k, h1, h2, h3⟩ := h
  exact ⟨k, h1, h2, fun K hK => h3 K (hi K hK)⟩
theorem mapsnd {α : Type} {o : Option (List Nat)} {P : List Nat → Option (α × List Nat)} {M : List Nat} (h : (o.bind P).map (·.2) = some M) : ∃ K x, o = some K ∧ P K = some x ∧ x.2 = M := by
  rw [Option.map_eq_some_iff] at h
  obtain ⟨x, hx, e⟩ := h
  rw [Option.bind_eq_some_iff] at hx
  obtain ⟨K, hK, hx⟩ := hx
  exact ⟨K, x, hK, hx, e⟩
theorem fix_some {t K : List Nat} (h : (fixP t K).isSome = true) : t.isPrefixOf K = true := by
  unfold fixP at h
  split at h
  · assumption
  · cases h
theorem fix_none {t K : List Nat} (h : (fixP t K).isSome = false) : ¬ t.isPrefixOf K = true := by
  unfold fixP at h
  split at h
  · cases h
  · assumption
theorem dsh_all {K : List Nat} (h : (fixP tAll K).isSome = true) : dshP K = some (0, K.drop 3) := by
  unfold dshP
  rw [if_pos (fix_some h)]
theorem dsh_num {K : List Nat} (h : (fixP tAll K).isSome = false) : dshP K = (dnumP K).bind fun x => if x.1 = 0 then none else (fixP tPct x.2).bind fun K => if x.1 ≤ 100 then some (x.1, K) else none := by
  unfold dshP
  rw [if_neg (fix_none h)]
set_option maxHeartbeats 4000000 in
theorem shareO_any (rd : Nat) (T : List Nat) (o : Option (List Nat)) (w : World) (hT : Byt T) (hl : T.length ≤ 1024) (h : RdO w rd T o) :
    Calls Tryd.prog 73 #[.pointer (some ⟨rd, 0, none⟩)] w (ShaO w rd T o) := by
  have h1 := textO_any rd tAll T o w byt_fix.1 hT hl h
  have HN := Lib.hid (fun W h => numO_any rd T o W hT hl h)
  have HP := Lib.hid (fun W h => textO_any rd tPct T ((o.bind dnumP).map (·.2)) W byt_fix.2.1 hT hl h)
  have lA := tAll_l2
  have lP := tPct_l2
  clear h
  go_enter Tryd.func73, Tryd.ntmps73
  go_wp2_with fail
  refine h1.mono ?_
  rintro e W1 ⟨b, rfl, hr, hb, hg, hf⟩
  have HB := Lib.hid hb
  have HG := Lib.hid hg
  rcases b with _ | _
  · have hc := Lib.hid (HN.out W1 (hf rfl))
    clear h1 hr hb hg hf
    go_wp2_with fail
    refine hc.out.mono ?_
    rintro e W2 ⟨n, b, rfl, hn9, hr2, hs, hg2⟩
    have HS := Lib.hid hs
    have HG2 := Lib.hid (turn_trans HG.out hg2)
    have HR2 := Lib.hid hr2
    have hc2 := Lib.hid (HP.out W2 hr2)
    clear hc hr2 hs hg2
    have hno : Hid (∀ K, o = some K → dshP K = (dnumP K).bind fun x => if x.1 = 0 then none else (fixP tPct x.2).bind fun K => if x.1 ≤ 100 then some (x.1, K) else none) := Lib.hid fun K hK => dsh_num (HB.out K hK).symm
    rcases b with _ | _
    · have HNone : Hid (∀ K, o = some K → dshP K = none) := Lib.hid fun K hK => by
        rw [hno.out K hK]
        rcases e : dnumP K with _ | x
        · rfl
        · have := ((HS.out K hK).1 x e).2
          cases this
      go_wp2_with fail
      go_ret2
      refine ⟨0, false, rfl, by omega, HR2.out.imp fun M hM => ?_, fun K hK => ⟨fun y hy => ?_, fun _ => rfl⟩, HG2.out⟩
      · obtain ⟨K, x, hK, hx, _⟩ := mapsnd hM
        rw [HNone.out K hK] at hx
        cases hx
      · rw [HNone.out K hK] at hy
        cases hy
    · have HNum : Hid (∀ K, o = some K → ∃ x, dnumP K = some x ∧ x.1 = n) := Lib.hid fun K hK => by
        rcases e : dnumP K with _ | x
        · have := (HS.out K hK).2 e
          cases this
        · exact ⟨x, rfl, ((HS.out K hK).1 x e).1.symm⟩
      by_cases h0 : n = 0
      · have HNone : Hid (∀ K, o = some K → dshP K = none) := Lib.hid fun K hK => by
          rw [hno.out K hK]
          obtain ⟨x, hx, hxn⟩ := HNum.out K hK
          rw [hx, Option.bind_some, if_pos (by omega)]
        have e0 : ((n : Int) == 0) = true := by rw [h0]; rfl
        clear h0
        go_wp2_with fail
        go_ret2
        refine ⟨0, false, rfl, by omega, HR2.out.imp fun M hM => ?_, fun K hK => ⟨fun y hy => ?_, fun _ => rfl⟩, HG2.out⟩
        · obtain ⟨K, x, hK, hx, _⟩ := mapsnd hM
          rw [HNone.out K hK] at hx
          cases hx
        · rw [HNone.out K hK] at hy
          cases hy
      · have e0 : ((n : Int) == 0) = false := by rw [beq_eq_false_iff_ne]; omega
        have H0 := Lib.hid h0
        clear h0
        go_wp2_with fail
        refine hc2.out.mono ?_
        rintro e W3 ⟨b, rfl, hr3, hb3, hg3, _⟩
        have HR3 := Lib.hid hr3
        have HB3 := Lib.hid hb3
        have HG3 := Lib.hid (turn_trans HG2.out hg3)
        clear hc2 hr3 hb3 hg3
        have HAT : Hid (∀ K x, o = some K → dnumP K = some x → b = (fixP tPct x.2).isSome) := Lib.hid fun K x hK hx => HB3.out x.2 (by rw [hK, Option.bind_some, hx]; rfl)
        rcases b with _ | _
        · have HNone : Hid (∀ K, o = some K → dshP K = none) := Lib.hid fun K hK => by
            rw [hno.out K hK]
            obtain ⟨x, hx, hxn⟩ := HNum.out K hK
            have := HAT.out K x hK hx
            rw [hx, Option.bind_some]
            split
            · rfl
            · rcases e : fixP tPct x.2 with _ | M
              · rfl
              · rw [e] at this; cases this
          go_wp2_with fail
          go_ret2
          refine ⟨0, false, rfl, by omega, HR3.out.imp fun M hM => ?_, fun K hK => ⟨fun y hy => ?_, fun _ => rfl⟩, HG3.out⟩
          · obtain ⟨K, x, hK, hx, _⟩ := mapsnd hM
            rw [HNone.out K hK] at hx
            cases hx
          · rw [HNone.out K hK] at hy
            cases hy
        · have hpc := fun W => Sh.percent_any (n : Int) (by omega) (by omega) W
          have HSt : Hid (∀ K, o = some K → ∃ x M, dnumP K = some x ∧ x.1 = n ∧ fixP tPct x.2 = some M ∧ dshP K = if n ≤ 100 then some (n, M) else none) := Lib.hid fun K hK => by
            obtain ⟨x, hx, hxn⟩ := HNum.out K hK
            have := HAT.out K x hK hx
            rcases e : fixP tPct x.2 with _ | M
            · rw [e] at this; cases this
            · refine ⟨x, M, hx, hxn, e, ?_⟩
              rw [hno.out K hK, hx, Option.bind_some, if_neg (by have := H0.out; omega), e, Option.bind_some, hxn]
          by_cases h100 : n ≤ 100
          · have ef : Sh.pcF (n : Int) = Sh.pctF n := by unfold Sh.pcF; rw [if_pos (by omega), Int.toNat_natCast]
            have ee : Sh.pcE (n : Int) = 0 := by unfold Sh.pcE; rw [if_pos (by omega)]
            rw [ef, ee] at hpc
            clear ef ee
            go_wp2_with fail
            refine (hpc _).mono ?_
            rintro e w' ⟨rfl, rfl⟩
            clear hpc
            go_wp2_with fail
            go_ret2
            refine ⟨Sh.pctF n, true, rfl, pctF_lt n h100, HR3.out.imp fun M hM => ?_, fun K hK => ⟨fun y hy => ?_, fun hy => ?_⟩, HG3.out⟩
            · obtain ⟨K, y, hK, hy, hM⟩ := mapsnd hM
              obtain ⟨x, M2, hx, hxn, hf, hd⟩ := HSt.out K hK
              rw [hd, if_pos h100] at hy
              injection hy with hy
              subst hy
              have hM : M2 = M := hM
              subst hM
              rw [hK, Option.bind_some, hx]
              exact hf
            · obtain ⟨x, M2, hx, hxn, hf, hd⟩ := HSt.out K hK
              rw [hd, if_pos h100] at hy
              injection hy with hy
              subst hy
              exact ⟨rfl, rfl⟩
            · obtain ⟨x, M2, hx, hxn, hf, hd⟩ := HSt.out K hK
              rw [hd, if_pos h100] at hy
              cases hy
          · have ef : Sh.pcF (n : Int) = 0 := by unfold Sh.pcF; rw [if_neg (by omega)]
            have ee : Sh.pcE (n : Int) = 1 := by unfold Sh.pcE; rw [if_neg (by omega)]
            rw [ef, ee] at hpc
            clear ef ee
            go_wp2_with fail
            refine (hpc _).mono ?_
            rintro e w' ⟨rfl, rfl⟩
            clear hpc
            go_wp2_with fail
            go_ret2
            refine ⟨0, false, rfl, by omega, HR3.out.imp fun M hM => ?_, fun K hK => ⟨fun y hy => ?_, fun hy => rfl⟩, HG3.out⟩
            · obtain ⟨K, y, hK, hy, hM⟩ := mapsnd hM
              obtain ⟨x, M2, hx, hxn, hf, hd⟩ := HSt.out K hK
              rw [hd, if_neg h100] at hy
              cases hy
            · obtain ⟨x, M2, hx, hxn, hf, hd⟩ := HSt.out K hK
              rw [hd, if_neg h100] at hy
              cases hy
  · have HR := Lib.hid hr
    clear h1 hr hb hg hf HN HP
    go_wp2_with fail
    go_ret2
    refine ⟨0, true, rfl, by omega, HR.out.imp fun M hM => ?_, fun K hK => ⟨fun y hy => ?_, fun hy => ?_⟩, HG.out⟩
    · obtain ⟨K, y, hK, hy, hM⟩ := mapsnd hM
      have hs := (HB.out K hK).symm
      rw [dsh_all hs] at hy
      injection hy with hy
      subst hy
      rw [hK, Option.bind_some]
      unfold fixP
      rw [if_pos (fix_some hs), ← hM]
      rfl
    · rw [dsh_all (HB.out K hK).symm] at hy
      injection hy with hy
      subst hy
      exact ⟨by rw [pct_zero], rfl⟩
    · rw [dsh_all (HB.out K hK).symm] at hy
      cases hy
end Go.Proofs.YtodnicaidmilkaaDoor
