/-
  The developers' shareText, ruleText.
-/
import Derived.Test.YtodnicaidmilkaaDoorNLib
import Derived.Test.YtodnicaidmilkaaDoorNCfg
import Derived.Test.YtodnicaidmilkaaDoorCChk
import Derived.BigQuiet
namespace Go.Proofs.YtodnicaidmilkaaDoor
open Go.RowKit
set_option maxRecDepth 100000
set_option linter.unusedVariables false

theorem tFull_l : ({ data := #[32, 102, 117, 108, 108, 32] } : ByteArray) = tx tFull := by decide
theorem tCol_l : ({ data := #[58, 32] } : ByteArray) = tx tCol := by decide
theorem tCo_l : ({ data := #[44, 32] } : ByteArray) = tx tCo := by decide
theorem tAll_l : ({ data := #[97, 108, 108] } : ByteArray) = tx tAll := by decide
theorem tPct_l : ({ data := #[37] } : ByteArray) = tx tPct := by decide
theorem tSl_l : ({ data := #[47] } : ByteArray) = tx tSl := by decide
theorem tGt_l : ({ data := #[62] } : ByteArray) = tx tGt := by decide
theorem tNil_l : ({ data := #[] } : ByteArray) = tx [] := by decide

/-- What shareText leaves. -/
def ShOut (x : Nat) (w : World) (e : Ending) (w' : World) : Prop := Below w.heap.size w w' ∧ ((∃ p, pctOf x = some p ∧ e = .returned (.tuple #[.string (tx (shL p)), .bool true])) ∨ (pctOf x = none ∧ e = .returned (.tuple #[.string (tx []), .bool false])))
theorem pctOf_zero : pctOf 0 = some 0 := by
  have := pctOf_mk (p := 0) (by omega)
  rwa [pct_zero] at this
set_option maxHeartbeats 1000000 in
theorem shareText_any (x : Nat) (hx : Sh.okF x = true) (w : World) (hT : P10 w) : Calls Tryd.prog 37 #[.float .f64 x] w (ShOut x w) := by
  have hx' : x ≤ 4607182418800017408 := by simpa [Sh.okF] using hx
  have lA := tAll_l
  have lN := tNil_l
  have lP := tPct_l
  have sz := tx_size
  have ap := tx_append
  have yP : tPct.length = 1 := rfl
  by_cases h0 : x = 0
  · subst h0
    have e0 : FloatKind.f64.format.order 0 0 = some .eq := Sh.fo_eq (by decide) (by decide) rfl
    have e1 : shL 0 = tAll := by unfold shL; rw [if_pos rfl]
    go_enter Tryd.func37, Tryd.ntmps37
    go_wp2
    go_ret2
    exact ⟨Below.refl _ _, .inl ⟨0, pctOf_zero, by rw [e1]; rfl⟩⟩
  · have e0 := Sh.fo_zero (x := x) (by omega) hx'
    have hpc := fun W => Sh.toPercent_any x W
    have HT := Lib.hid hT
    have H0 := Lib.hid h0
    clear hT hx hx' h0
    go_enter Tryd.func37, Tryd.ntmps37
    go_wp2_with fail
    refine (hpc _).mono ?_
    rintro e w' ⟨pv, ok, rfl, rfl, hpct⟩
    clear hpc
    rcases hpct with ⟨rfl, p, rfl, hp1, hp2, _⟩ | ⟨rfl, rfl, hp2⟩
    · have hpo : pctOf x = some p := by rw [← hp2]; exact pctOf_mk hp1
      have e1 : shL p = decL p ++ tPct := by
        unfold shL
        rw [if_neg (fun e => by subst e; rw [pct_zero] at hp2; exact H0.out hp2.symm)]
      have hit := itoa_any p (by omega) w HT.out
      have e4 : (decL p).length ≤ 4 := dec_len (by omega)
      have e5 : ¬ 9223372036854775807 < (decL p).length + 1 := by omega
      have HPO := Lib.hid hpo
      have E1 := Lib.hid e1
      clear hpo e1 hp2
      go_wp2_with fail
      refine hit.mono ?_
      rintro e w' ⟨rfl, hb⟩
      have HB := Lib.hid hb
      clear hit hb
      go_wp2
      go_ret2
      exact ⟨HB.out, .inl ⟨p, HPO.out, by rw [E1.out]; rfl⟩⟩
    · have hn : pctOf x = none := by
        rcases e : pctOf x with _ | q
        · rfl
        · exact absurd (pctOf_some e).2 (hp2 q (pctOf_some e).1)
      have HN := Lib.hid hn
      clear hn hp2
      go_wp2
      go_ret2
      exact ⟨Below.refl _ _, .inr ⟨HN.out, rfl⟩⟩

/-- What ruleText leaves. -/
def RuOut (x : Nat) (l b t : Nat) (w : World) (e : Ending) (w' : World) : Prop := Below w.heap.size w w' ∧ ((∃ p, pctOf x = some p ∧ e = .returned (.tuple #[.string (tx (rulL ⟨p, l, b, t⟩)), .bool true])) ∨ (pctOf x = none ∧ e = .returned (.tuple #[.string (tx []), .bool false])))
set_option maxHeartbeats 4000000 in
theorem ruleText_any (x l b t : Nat) (hx : Sh.okF x = true) (h1 : l ≤ 64) (h2 : b ≤ 64) (h3 : t ≤ 64) (w : World) (hT : P10 w) :
    Calls Tryd.prog 20 #[.agg #[.float .f64 x, .int .i64 (l : Int), .int .i64 (b : Int), .int .i64 (t : Int)]] w (RuOut x l b t w) := by
  have lS := tSl_l
  have lG := tGt_l
  have lN := tNil_l
  have sz := tx_size
  have ap := tx_append
  have yS : tSl.length = 1 := rfl
  have yG : tGt.length = 1 := rfl
  obtain ⟨U, hU⟩ : ∃ U, U = w.alloc (.cells #[.float .f64 x, .int .i64 (l : Int), .int .i64 (b : Int), .int .i64 (t : Int)] 48) := ⟨_, rfl⟩
  have HBU : Hid (Below w.heap.size w U) := by rw [hU]; exact Lib.hid ((Below.refl _ _).alloc (Nat.le_refl _) _)
  have BS0 : Blk U w.heap.size 48 #[.float .f64 x, .int .i64 (l : Int), .int .i64 (b : Int), .int .i64 (t : Int)] := by rw [hU]; exact Blk.new _ _ _
  have hsh := shareText_any x hx U (hT.next HBU.out)
  have p0 := BS0.cell 0
  simp at p0
  have BS := Lib.hid BS0
  have HU := Lib.hid hU
  have hst := stF
  clear hT hx hU BS0
  go_enter Tryd.func20, Tryd.ntmps20
  go_wp2_with fail
  rw [← HU.out]
  go_wp2_with fail
  refine hsh.mono ?_
  rintro e w1 ⟨hb, hsp⟩
  have HB := Lib.hid hb
  have B1 := BS.out.next hb
  have q1 := B1.cell 1
  have q2 := B1.cell 2
  have q3 := B1.cell 3
  simp at q1 q2 q3
  clear hsh hb p0
  rcases hsp with ⟨p, hp, rfl⟩ | ⟨hp, rfl⟩
  · have HP := Lib.hid hp
    obtain ⟨T, hT⟩ : ∃ T, T = shL p := ⟨_, rfl⟩
    have hTl : T.length ≤ 5 := by
      rw [hT]
      unfold shL
      split
      · decide
      · have := dec_len (n := p) (by have := (pctOf_some hp).1; omega)
        rw [List.length_append]
        have : tPct.length = 1 := rfl
        omega
    rw [← hT]
    have j1 := dec_len (n := l) (by omega)
    have j2 := dec_len (n := b) (by omega)
    have j3 := dec_len (n := t) (by omega)
    have o1 : ¬ 9223372036854775807 < T.length + 1 := by omega
    have o2 : ¬ 9223372036854775807 < T.length + 1 + (decL l).length := by omega
    have o3 : ¬ 9223372036854775807 < T.length + (1 + (decL l).length) + 1 := by omega
    have o4 : ¬ 9223372036854775807 < T.length + (1 + ((decL l).length + 1)) + (decL b).length := by omega
    have o5 : ¬ 9223372036854775807 < T.length + (1 + ((decL l).length + (1 + (decL b).length))) + 1 := by omega
    have o6 : ¬ 9223372036854775807 < T.length + (1 + ((decL l).length + (1 + ((decL b).length + 1)))) + (decL t).length := by omega
    have HT := Lib.hid hT
    have c1 := fun W => itoaS l (by omega) W
    have c2 := fun W => itoaS b (by omega) W
    have c3 := fun W => itoaS t (by omega) W
    clear hp hT
    go_upto_region 4 with fail
    go_quiet ((go_at_call 21; exact Calls.quiet_of_same (by first | exact c1 _ | exact c2 _ | exact c3 _)))
    go_wp2
    go_ret2
    refine ⟨below_drewN (below_step HBU.out HBU.out.size HB.out) _, .inl ⟨p, HP.out, ?_⟩⟩
    unfold rulL
    rw [← HT.out]
    rfl
  · have HP := Lib.hid hp
    clear hp
    go_wp2
    go_ret2
    exact ⟨below_step HBU.out HBU.out.size HB.out, .inr ⟨HP.out, rfl⟩⟩
end Go.Proofs.YtodnicaidmilkaaDoor
