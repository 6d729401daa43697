/-
  The developers' reader: readNumber, readNumberAfter, readShare; told by what is left of the text: some K, or nothing once something was not read.
-/
import Derived.Test.YtodnicaidmilkaaDoorNRun
namespace Go.Proofs.YtodnicaidmilkaaDoor
open Go.RowKit
set_option maxRecDepth 100000
set_option linter.unusedVariables false

theorem valD_snoc13 (D : List Nat) (c : Nat) : valD (D ++ [c]) = valD D * 10 + (c - 48) := by
  unfold valD
  rw [List.foldl_append]
  rfl
theorem valD_lt13 : ∀ (k : Nat) (D : List Nat), D.length = k → (∀ c ∈ D, c ≤ 57) → valD D < 10 ^ k
  | 0, D, h, _ => by
    rw [List.length_eq_zero_iff.1 h]
    decide
  | k + 1, D, h, hd => by
    have hne : D ≠ [] := fun e => by rw [e] at h; simp at h
    have e := List.dropLast_concat_getLast hne
    rw [← e, valD_snoc13]
    have ih := valD_lt13 k D.dropLast (by simp [h]) fun c hc => hd c (List.dropLast_subset _ hc)
    have := hd (D.getLast hne) (List.getLast_mem hne)
    rw [Nat.pow_succ]
    omega
theorem turn_two13 {a w w1 : World} {r : Option Nat} (h : a.grownBy w r) (g : w.grownBy w1 r) : a.grownBy w1 r :=
  ⟨g.os.trans h.os, g.tape.trans h.tape, g.output.trans h.output, Nat.le_trans h.size g.size, fun i hi hn => (g.block i (Nat.lt_of_lt_of_le hi h.size) hn).trans (h.block i hi hn)⟩
theorem run_byt {B : Nat → Bool} {m : Nat} {L : List Nat} (h : Byt L) : Byt (runL B m L) := fun c hc => by
  have := run_pre B m L
  exact h c (by rw [← this]; exact List.mem_append_left _ hc)

/-- What readNumber leaves, at the place k. -/
def DNum (w : World) (rd : Nat) (T : List Nat) (k : Nat) (e : Ending) (w' : World) : Prop := ∃ (n : Nat) (b : Bool) (k' : Nat), e = .returned (.tuple #[.int .i64 n, .bool b]) ∧ n ≤ 9999 ∧ k' ≤ T.length ∧ RdD w' rd T k' ∧ (∀ x, dnumP (T.drop k) = some x → n = x.1 ∧ b = true ∧ T.drop k' = x.2) ∧ (dnumP (T.drop k) = none → b = false) ∧ w.grownBy w' (some rd)
theorem zero_l : ({ data := #[48] } : ByteArray) = tx [48] := by decide
theorem empty_l : ({ data := #[] } : ByteArray) = tx [] := by decide
set_option maxHeartbeats 4000000 in
theorem num13_any (rd : Nat) (T : List Nat) (k : Nat) (w : World) (hT : Byt T) (hl : T.length ≤ 1024) (hk : k ≤ T.length) (hB : RdD w rd T k) :
    Calls Tryd.prog 61 #[.pointer (some ⟨rd, 0, none⟩)] w (DNum w rd T k) := by
  have hzero := text_any rd [48] T k w (by intro c hc; simp at hc; omega) hT hl hk hB
  have l48 := zero_l
  have HT := Lib.hid hT
  have HL := Lib.hid hl
  have HK := Lib.hid hk
  rcases hp : [48].isPrefixOf (T.drop k) with _ | _
  · rw [hp] at hzero
    rw [if_neg Bool.false_ne_true] at hzero
    obtain ⟨V, hV⟩ : ∃ v, v = runL digB 4 (T.drop k) := ⟨_, rfl⟩
    have hrun := fun W hB => runDig_any rd T k W hT hl hk hB
    rw [← hV] at hrun
    have hVb : Byt V := by rw [hV]; exact run_byt (hT.drop k)
    have hV4 : V.length ≤ 4 := by rw [hV]; exact run_le _ _ _
    have hVd : ∀ c ∈ V, digB c = true := by rw [hV]; exact run_all _ _ _
    have hVk : k + V.length ≤ T.length := by rw [hV]; exact (run_facts digB 4 T k hk).1
    have HN : Hid (dnumP (T.drop k) = if V.length = 0 then none else some (valD V, T.drop (k + V.length))) := Lib.hid (by
      unfold dnumP
      rw [hp, if_neg Bool.false_ne_true, ← hV, List.drop_drop])
    have sV := tx_size V
    have HVB := Lib.hid hVb
    have HVD := Lib.hid hVd
    have HVK := Lib.hid hVk
    clear hp hV hT hB hl hk hVb hVd hVk
    go_enter Tryd.func61, Tryd.ntmps61
    go_wp2_with fail
    refine hzero.mono ?_
    rintro e W1 ⟨rfl, hB1, hg1⟩
    have HG1 := Lib.hid hg1
    have hr := Lib.hid (hrun W1 hB1)
    clear hzero hrun hB1 hg1
    go_wp2_with fail
    refine hr.out.mono ?_
    rintro e W2 ⟨rfl, hB2, hg2⟩
    have HG2 := Lib.hid (turn_two13 HG1.out hg2)
    have HB2 := Lib.hid hB2
    clear hr hB2 hg2
    go_wp2_with fail
    go_loop [17, 6] (fun i n => ∃ j : Nat, j ≤ V.length ∧ i = .int .i64 j ∧ n = .int .i64 (valD (V.take j))) (fun i _ => V.length - (intOf i).toNat)
    case atStart => exact ⟨0, Nat.zero_le _, rfl, rfl⟩
    case round =>
      obtain ⟨j, hj, rfl, rfl⟩ := hrel
      by_cases hlt : j < V.length
      · obtain ⟨c, hc⟩ := gt_of hlt
        obtain ⟨hi, hz⟩ := tx_byte HVB.out hc
        have hd := dig_of (HVD.out c (List.mem_iff_getElem?.2 ⟨j, hc⟩))
        have htk : V.take (j + 1) = V.take j ++ [c] := by rw [List.take_add_one, hc]; rfl
        have hv : valD (V.take (j + 1)) = valD (V.take j) * 10 + (c - 48) := by rw [htk, valD_snoc13]
        have hvl : valD (V.take j) < 10 ^ 4 := by
          have h1 := valD_lt13 _ (V.take j) rfl fun d hd' => (dig_of (HVD.out d (List.mem_of_mem_take hd'))).2
          have h2 : (V.take j).length ≤ 4 := by rw [List.length_take]; omega
          exact Nat.lt_of_lt_of_le h1 (Nat.pow_le_pow_right (by omega) h2)
        have hvl : valD (V.take j) < 10000 := hvl
        have h1 : 0 ≤ (j : Int) ∧ (j : Int) < V.length := by omega
        have hw1 : IntKind.u8.wrap ((c : Int) - 48) = (c : Int) - 48 := by
          have h : ((c : Int) - 48) = ((c - 48 : Nat) : Int) := by omega
          rw [h]
          exact Int.emod_eq_of_lt (by omega) (by show _ < (256 : Int); omega)
        have HV := Lib.hid hv
        obtain ⟨v, hvv⟩ : ∃ v, v = valD (V.take j) := ⟨_, rfl⟩
        rw [← hvv] at hvl HV ⊢
        have hw2 : IntKind.i64.wrap (10 * (v : Int)) = 10 * (v : Int) := IntWalk.i64_in _ (by omega)
        have hw3 : IntKind.i64.wrap (10 * (v : Int) + ((c : Int) - 48)) = 10 * (v : Int) + ((c : Int) - 48) := IntWalk.i64_in _ (by omega)
        have hw4 : IntKind.i64.wrap ((c : Int) - 48) = (c : Int) - 48 := IntWalk.i64_in _ (by omega)
        have hw5 : IntKind.i64.wrap ((j : Int) + 1) = (j : Int) + 1 := IntWalk.i64_in _ (by omega)
        have HD := Lib.hid hd
        clear hc hd htk hv hvv
        go_wp2_with fail
        refine ⟨⟨j + 1, by omega, by go_num, ?_⟩, by simp [intOf]; omega⟩
        have := HD.out
        rw [HV.out]
        congr 1
        omega
      · obtain rfl : j = V.length := by omega
        have hle : ¬ ((V.length : Int) < V.length) := by omega
        have e1 : V.take V.length = V := List.take_length
        rw [e1]
        obtain ⟨v, hv⟩ : ∃ v, v = valD V := ⟨_, rfl⟩
        rw [← hv]
        have HV := Lib.hid hv
        clear hlt hj hv
        go_wp2_with fail
        go_ret2
        refine ⟨v, decide (0 < V.length), k + V.length, rfl, ?_, HVK.out, HB2.out, fun x hx => ?_, fun hx => ?_, HG2.out⟩
        · have h1 := valD_lt13 _ V rfl fun d hd' => (dig_of (HVD.out d hd')).2
          have h2 : 10 ^ V.length ≤ 10 ^ 4 := Nat.pow_le_pow_right (by omega) hV4
          rw [HV.out]
          omega
        · rw [HN.out] at hx
          split at hx
          · cases hx
          · injection hx with hx
            subst hx
            exact ⟨HV.out, decide_eq_true (by omega), rfl⟩
        · rw [HN.out] at hx
          split at hx
          · rename_i h0
            exact decide_eq_false (by omega)
          · cases hx
  · rw [hp] at hzero
    rw [if_pos rfl] at hzero
    have hle : k + 1 ≤ T.length := by
      have := ((fixP_iff [48] (T.drop k)).1 hp).1
      rw [List.length_drop] at this
      simp at this
      omega
    have HP := Lib.hid hp
    have HLE := Lib.hid hle
    clear hp hT hB hl hk hle
    go_enter Tryd.func61, Tryd.ntmps61
    go_wp2_with fail
    refine hzero.mono ?_
    rintro e W1 ⟨rfl, hB1, hg1⟩
    have HG1 := Lib.hid hg1
    have HB1 := Lib.hid hB1
    clear hzero hB1 hg1
    go_wp2_with fail
    go_ret2
    refine ⟨0, true, k + 1, rfl, by omega, HLE.out, HB1.out, fun x hx => ?_, fun hx => ?_, HG1.out⟩
    · unfold dnumP at hx
      rw [if_pos HP.out] at hx
      injection hx with hx
      subst hx
      exact ⟨rfl, rfl, by rw [List.drop_drop]⟩
    · unfold dnumP at hx
      rw [if_pos HP.out] at hx
      cases hx
end Go.Proofs.YtodnicaidmilkaaDoor
