/-
  The developers' reader: the kinds of bytes, readText, readRun.
-/
import Derived.Test.YtodnicaidmilkaaDoorNDev
import Derived.Test.YtodnicaidmilkaaDoorNLib
import Derived.Test.YtodnicaidmilkaaDoorNRd
import Derived.BigQuiet
import Derived.LoopTactic
namespace Go.Proofs.YtodnicaidmilkaaDoor
open Go.RowKit
set_option maxRecDepth 100000
set_option linter.unusedVariables false

theorem isDig13_any (c : Nat) (w : World) : Calls Tryd.prog 60 #[.int .u8 (c : Int)] w fun e w' => e = .returned (.bool (digB c)) ∧ w' = w := by
  by_cases h1 : (48 : Int) ≤ c
  · by_cases h2 : (c : Int) ≤ 57
    · go_enter Tryd.func60, Tryd.ntmps60
      go_wp2
      go_ret
      exact ⟨ret_bool (by simp [digB]; omega), rfl⟩
    · go_enter Tryd.func60, Tryd.ntmps60
      go_wp2
      go_ret
      exact ⟨ret_bool (by simp [digB]; omega), rfl⟩
  · go_enter Tryd.func60, Tryd.ntmps60
    go_wp2
    go_ret
    exact ⟨ret_bool (by simp [digB]; omega), rfl⟩
theorem isChr13_any (c : Nat) (w : World) : Calls Tryd.prog 45 #[.int .u8 (c : Int)] w fun e w' => e = .returned (.bool (chrB c)) ∧ w' = w := by
  have hd := fun W => isDig13_any c W
  by_cases h : letB c = true
  · have h1 : (97 : Int) ≤ c := by simp [letB] at h; omega
    have h2 : (c : Int) ≤ 122 := by simp [letB] at h; omega
    have e : chrB c = true := by unfold chrB; rw [h]; rfl
    rw [e]
    clear h e
    go_enter Tryd.func45, Tryd.ntmps45
    go_wp2_with fail
    go_ret
    exact ⟨rfl, rfl⟩
  · have hl : letB c = false := by simpa using h
    have hcond : ¬ (97 : Int) ≤ c ∨ ((97 : Int) ≤ c ∧ ¬ (c : Int) ≤ 122) := by
      simp [letB] at hl
      omega
    rcases hb : digB c with _ | _
    · have e : chrB c = ((c : Int) == 45) := by
        unfold chrB
        rw [hl, hb, Bool.eq_iff_iff]
        simp
        omega
      rw [hb] at hd
      rw [e]
      clear h hl hb e
      rcases h45 : ((c : Int) == 45) with _ | _
      · rcases hcond with h1 | ⟨h1, h2⟩
        all_goals
          go_enter Tryd.func45, Tryd.ntmps45
          go_wp2_with (go_at_call 60; refine (hd _).mono ?_; rintro e w' ⟨rfl, rfl⟩)
          go_ret
          exact ⟨rfl, rfl⟩
      · rcases hcond with h1 | ⟨h1, h2⟩
        all_goals
          go_enter Tryd.func45, Tryd.ntmps45
          go_wp2_with (go_at_call 60; refine (hd _).mono ?_; rintro e w' ⟨rfl, rfl⟩)
          go_ret
          exact ⟨rfl, rfl⟩
    · have e : chrB c = true := by unfold chrB; rw [hl, hb]; rfl
      rw [hb] at hd
      rw [e]
      clear h hl hb e
      rcases hcond with h1 | ⟨h1, h2⟩
      all_goals
        go_enter Tryd.func45, Tryd.ntmps45
        go_wp2_with (go_at_call 60; refine (hd _).mono ?_; rintro e w' ⟨rfl, rfl⟩)
        go_ret
        exact ⟨rfl, rfl⟩

/-- The reader of the text T, read up to k. -/
def RdD (w : World) (rd : Nat) (T : List Nat) (k : Nat) : Prop := Blk w rd 60 #[.string (tx T), .int .i64 (k : Int)]
/-- What a reading method leaves: v, and the place k'. -/
def DOut (w : World) (rd : Nat) (T : List Nat) (v : Value) (k : Nat) (e : Ending) (w' : World) : Prop := e = .returned v ∧ RdD w' rd T k ∧ w.grownBy w' (some rd)
set_option maxHeartbeats 2000000 in
theorem text_any (rd : Nat) (t T : List Nat) (k : Nat) (w : World) (ht : Byt t) (hT : Byt T) (hl : T.length ≤ 1024) (hk : k ≤ T.length) (hB : RdD w rd T k) :
    Calls Tryd.prog 47 #[.pointer (some ⟨rd, 0, none⟩), .string (tx t)] w (DOut w rd T (.bool (t.isPrefixOf (T.drop k))) (if t.isPrefixOf (T.drop k) then k + t.length else k)) := by
  have q0 := hB.cell 0
  have q1 := hB.cell 1
  have z1 := hB.frozen 1
  simp at q0 q1
  have s1 := tx_size T
  have s2 := tx_size t
  have hx : (tx T).extract k T.length = tx (T.drop k) := by rw [tx_extract, List.take_of_length_le (by simp)]
  have hk2 : 0 ≤ (k : Int) ∧ (k : Int) ≤ T.length := by omega
  have hk3 : ¬ ((k : Int) < 0) := by omega
  have hpre := fun W => hasPre_any t (T.drop k) ht (hT.drop k) W
  have HBB := Lib.hid hB
  have HL := Lib.hid hl
  rcases hp : t.isPrefixOf (T.drop k) with _ | _
  · rw [hp] at hpre
    simp only [if_neg Bool.false_ne_true]
    clear hp hB
    go_enter Tryd.func47, Tryd.ntmps47
    go_upto_region 1 with fail
    go_quiet ((go_at_call 62; exact Calls.quiet_of_same (hpre _)))
    go_wp2_with fail
    go_ret
    exact ⟨rfl, by unfold RdD; exact (Blk.next HBB.out (below_drewN (Below.refl _ _) _)), turn_below (below_drewN (Below.refl _ _) _)⟩
  · have hle : k + t.length ≤ T.length := by
      have := ((fixP_iff t (T.drop k)).1 hp).1
      rw [List.length_drop] at this
      omega
    have hw : IntKind.i64.wrap ((k : Int) + t.length) = (k : Int) + t.length := IntWalk.i64_in _ (by omega)
    rw [hp] at hpre
    simp only [if_pos]
    have HLE := Lib.hid hle
    clear hp hB hle
    go_enter Tryd.func47, Tryd.ntmps47
    go_upto_region 1 with fail
    go_quiet ((go_at_call 62; exact Calls.quiet_of_same (hpre _)))
    go_wp2_with fail
    go_ret
    refine ⟨rfl, ?_, turn_set (turn_below (below_drewN (Below.refl _ _) _)) _ _⟩
    have := (Blk.next HBB.out (below_drewN (Below.refl _ _) nq)).set_ 1 (.int .i64 ((k : Int) + t.length))
    unfold RdD
    rw [Int.natCast_add]
    exact this

def posN13 (w : World) (rd : Nat) : Nat := match w.cell? ⟨rd, 1, none⟩ with
  | some (.int _ x) => x.toNat
  | _ => 0
theorem posN13_of {w : World} {rd k : Nat} {T : List Nat} (h : RdD w rd T k) : posN13 w rd = k := by
  have q1 := h.cell 1
  simp at q1
  unfold posN13
  rw [q1]
  simp
theorem run_facts (B : Nat → Bool) (m : Nat) (T : List Nat) (k : Nat) (hk : k ≤ T.length) :
    k + (runL B m (T.drop k)).length ≤ T.length ∧ (∀ j, j < (runL B m (T.drop k)).length → ∃ c, T[k + j]? = some c ∧ B c = true) ∧
      ((runL B m (T.drop k)).length < m → ∀ c, T[k + (runL B m (T.drop k)).length]? = some c → B c = false) ∧ runL B m (T.drop k) = (T.drop k).take (runL B m (T.drop k)).length := by
  have hp := run_pre B m (T.drop k)
  have hle : (runL B m (T.drop k)).length ≤ (T.drop k).length := by
    have := congrArg List.length hp
    rw [List.length_append] at this
    omega
  have htk : runL B m (T.drop k) = (T.drop k).take (runL B m (T.drop k)).length := by
    have := congrArg (List.take (runL B m (T.drop k)).length) hp
    rw [List.take_left] at this
    exact this
  rw [List.length_drop] at hle
  refine ⟨by omega, fun j hj => ?_, fun hm c hc => ?_, htk⟩
  · have hj2 : k + j < T.length := by omega
    refine ⟨T[k + j], List.getElem?_eq_getElem hj2, run_all B m (T.drop k) _ ?_⟩
    rw [htk]
    refine List.mem_iff_getElem?.2 ⟨j, ?_⟩
    rw [List.getElem?_take, if_pos hj, List.getElem?_drop]
    exact List.getElem?_eq_getElem hj2
  · have e1 : (runL B m (T.drop k)).length = ((T.drop k).takeWhile B).length := by
      have : (runL B m (T.drop k)).length = min m ((T.drop k).takeWhile B).length := by unfold runL; rw [List.length_take]
      omega
    rw [e1] at hc
    have h2 : (T.drop k)[((T.drop k).takeWhile B).length]? = some c := by rw [List.getElem?_drop]; exact hc
    generalize T.drop k = L at h2
    clear hc e1 hm htk hle hp
    induction L with
    | nil => simp at h2
    | cons d L ih =>
      rw [List.takeWhile_cons] at h2
      split at h2
      · simp at h2
        exact ih h2
      · rename_i hd
        simp at h2
        subst h2
        simpa using hd

set_option maxHeartbeats 8000000 in
theorem runChr_any (rd : Nat) (T : List Nat) (k : Nat) (w : World) (hT : Byt T) (hl : T.length ≤ 1024) (hk : k ≤ T.length) (hB : RdD w rd T k) :
    Calls Tryd.prog 44 #[.pointer (some ⟨rd, 0, none⟩), .func (.func 45) #[] #[], .int .i64 16] w
      (DOut w rd T (.tuple #[.string (tx (runL chrB 16 (T.drop k))), .bool (decide (0 < (runL chrB 16 (T.drop k)).length))]) (k + (runL chrB 16 (T.drop k)).length)) := by
  have q1 := hB.cell 1
  simp at q1
  have s1 := tx_size T
  have HT := Lib.hid hT
  have HL := Lib.hid hl
  have HBB := Lib.hid hB
  obtain ⟨rl, hrl⟩ : ∃ r, r = (runL chrB 16 (T.drop k)).length := ⟨_, rfl⟩
  obtain ⟨V, hV⟩ : ∃ v, v = runL chrB 16 (T.drop k) := ⟨_, rfl⟩
  rw [← hrl, ← hV]
  have hr1 : rl ≤ 16 := by rw [hrl]; exact run_le _ _ _
  obtain ⟨r2, r3, r4, r5⟩ := run_facts chrB 16 T k hk
  rw [← hrl] at r2 r3 r4 r5
  rw [← hV] at r5
  have R3 := Lib.hid r3
  have R4 := Lib.hid r4
  have R5 := Lib.hid r5
  clear hrl hV hB hT r3 r4 r5
  go_enter Tryd.func44, Tryd.ntmps44
  go_wp2_with fail
  go_loopw [] (fun wr => ∃ j : Nat, j ≤ rl ∧ RdD wr rd T (k + j) ∧ w.grownBy wr (some rd)) (fun wr => T.length - posN13 wr rd)
  case atStart => exact ⟨0, Nat.zero_le _, HBB.out, turn_below (Below.refl _ _)⟩
  case round =>
    obtain ⟨j, hj, hb, hg⟩ := hrel
    obtain ⟨p, hp⟩ : ∃ p, p = k + j := ⟨_, rfl⟩
    rw [← hp] at hb
    have q0 := hb.cell 0
    have q1 := hb.cell 1
    have z1 := hb.frozen 1
    simp at q0 q1
    have hpo := posN13_of hb
    have HBR := Lib.hid hb
    have HG := Lib.hid hg
    have hw : IntKind.i64.wrap ((p : Int) - k) = (j : Int) := by rw [IntWalk.i64_in _ (by omega)]; omega
    clear hb hg
    by_cases hlt : j < rl
    · obtain ⟨c, hc, hcB⟩ := R3.out j hlt
      rw [← hp] at hc
      obtain ⟨hi, hz⟩ := tx_byte HT.out hc
      have hpl : p < T.length := gt_lt hc
      have h1 : (p : Int) < T.length := by omega
      have h2 : (j : Int) < 16 := by omega
      have h3 : 0 ≤ (p : Int) ∧ (p : Int) < T.length := by omega
      have hcall := fun W => isChr13_any c W
      rw [hcB] at hcall
      have hw2 : IntKind.i64.wrap ((p : Int) + 1) = (p : Int) + 1 := IntWalk.i64_in _ (by omega)
      have HP := Lib.hid hp
      have HPO := Lib.hid hpo
      clear hp hc hcB hpo
      go_upto_region 2 with fail
      go_quiet ((go_at_call 45; exact Calls.quiet_of_same (hcall _)))
      go_wp2_with fail
      have hs := (Blk.next HBR.out (below_drewN (Below.refl _ _) nq)).set_ 1 (.int .i64 ((p : Int) + 1))
      have hs2 : RdD ((wr.drewN nq).setCell ⟨rd, 1, none⟩ (.int .i64 ((p : Int) + 1))) rd T (k + (j + 1)) := by
        unfold RdD
        rw [show ((k + (j + 1) : Nat) : Int) = (p : Int) + 1 by have := HP.out; omega]
        exact hs
      have hpo2 := posN13_of hs2
      refine ⟨⟨j + 1, by omega, hs2, turn_set (turn_next HG.out (below_drewN (Below.refl _ _) _)) _ _⟩, ?_⟩
      have e1 := HP.out
      have e2 := HPO.out
      first
        | (rw [hpo2, e2]; omega)
        | (show T.length - posN13 _ rd < T.length - posN13 _ rd; fail "M")
    · obtain rfl : j = rl := by omega
      have hend : (decide ((p : Int) < T.length) = false) ∨ ((p : Int) < T.length ∧ decide ((j : Int) < 16) = false) ∨ ((p : Int) < T.length ∧ (j : Int) < 16 ∧ ∃ c, T[p]? = some c ∧ chrB c = false) := by
        rcases Nat.lt_or_ge p T.length with h | h
        · rcases Nat.lt_or_ge j 16 with h2 | h2
          · refine .inr (.inr ⟨by omega, by omega, T[p], List.getElem?_eq_getElem h, ?_⟩)
            exact R4.out h2 _ (by rw [← hp]; exact List.getElem?_eq_getElem h)
          · exact .inr (.inl ⟨by omega, decide_eq_false (by omega)⟩)
        · exact .inl (decide_eq_false (by omega))
      have hsl : (tx T).extract k p = tx V := by
        rw [tx_extract, R5.out]
        congr 2
        omega
      have hs1 : 0 ≤ (k : Int) ∧ (k : Int) ≤ p ∧ (p : Int) ≤ T.length := by omega
      have hs2 : ((k : Int) ≤ p) := by omega
      have hs3 : ((p : Int) ≤ T.length) := by omega
      have HGT : Hid (decide (k < p) = decide (0 < j)) := Lib.hid (by rw [Bool.eq_iff_iff]; simp; omega)
      have HP := Lib.hid hp
      clear hp hpo hlt
      rcases hend with h | ⟨h1, h2⟩ | ⟨h1, h2, c, hc, hcB⟩
      · have h' : decide (p < T.length) = false := by simpa using h
        go_upto_region 2 with fail
        go_quiet (fail)
        go_wp2_with fail
        go_quiet (fail)
        go_wp2_with fail
        go_ret2
        refine ⟨?_, ?_, ?_⟩
        · show Ending.returned (.tuple #[.string (tx V), .bool (decide (k < p))]) = _
          rw [HGT.out]
        · unfold RdD
          rw [← HP.out]
          exact Blk.next HBR.out (below_drewN (below_drewN (Below.refl _ _) _) _)
        · exact turn_next HG.out (below_drewN (below_drewN (Below.refl _ _) _) _)
      · go_upto_region 2 with fail
        go_quiet (fail)
        go_wp2_with fail
        go_quiet (fail)
        go_wp2_with fail
        go_ret2
        refine ⟨?_, ?_, ?_⟩
        · show Ending.returned (.tuple #[.string (tx V), .bool (decide (k < p))]) = _
          rw [HGT.out]
        · unfold RdD
          rw [← HP.out]
          exact Blk.next HBR.out (below_drewN (below_drewN (Below.refl _ _) _) _)
        · exact turn_next HG.out (below_drewN (below_drewN (Below.refl _ _) _) _)
      · obtain ⟨hi, hz⟩ := tx_byte HT.out hc
        have h3 : 0 ≤ (p : Int) ∧ (p : Int) < T.length := by omega
        have hcall := fun W => isChr13_any c W
        rw [hcB] at hcall
        clear hc hcB
        go_upto_region 2 with fail
        go_quiet ((go_at_call 45; exact Calls.quiet_of_same (hcall _)))
        go_wp2_with fail
        go_quiet (fail)
        go_wp2_with fail
        go_ret2
        refine ⟨?_, ?_, ?_⟩
        · show Ending.returned (.tuple #[.string (tx V), .bool (decide (k < p))]) = _
          rw [HGT.out]
        · unfold RdD
          rw [← HP.out]
          exact Blk.next HBR.out (below_drewN (below_drewN (Below.refl _ _) _) _)
        · exact turn_next HG.out (below_drewN (below_drewN (Below.refl _ _) _) _)

set_option maxHeartbeats 8000000 in
theorem runDig_any (rd : Nat) (T : List Nat) (k : Nat) (w : World) (hT : Byt T) (hl : T.length ≤ 1024) (hk : k ≤ T.length) (hB : RdD w rd T k) :
    Calls Tryd.prog 44 #[.pointer (some ⟨rd, 0, none⟩), .func (.func 60) #[] #[], .int .i64 4] w
      (DOut w rd T (.tuple #[.string (tx (runL digB 4 (T.drop k))), .bool (decide (0 < (runL digB 4 (T.drop k)).length))]) (k + (runL digB 4 (T.drop k)).length)) := by
  have q1 := hB.cell 1
  simp at q1
  have s1 := tx_size T
  have HT := Lib.hid hT
  have HL := Lib.hid hl
  have HBB := Lib.hid hB
  obtain ⟨rl, hrl⟩ : ∃ r, r = (runL digB 4 (T.drop k)).length := ⟨_, rfl⟩
  obtain ⟨V, hV⟩ : ∃ v, v = runL digB 4 (T.drop k) := ⟨_, rfl⟩
  rw [← hrl, ← hV]
  have hr1 : rl ≤ 4 := by rw [hrl]; exact run_le _ _ _
  obtain ⟨r2, r3, r4, r5⟩ := run_facts digB 4 T k hk
  rw [← hrl] at r2 r3 r4 r5
  rw [← hV] at r5
  have R3 := Lib.hid r3
  have R4 := Lib.hid r4
  have R5 := Lib.hid r5
  clear hrl hV hB hT r3 r4 r5
  go_enter Tryd.func44, Tryd.ntmps44
  go_wp2_with fail
  go_loopw [] (fun wr => ∃ j : Nat, j ≤ rl ∧ RdD wr rd T (k + j) ∧ w.grownBy wr (some rd)) (fun wr => T.length - posN13 wr rd)
  case atStart => exact ⟨0, Nat.zero_le _, HBB.out, turn_below (Below.refl _ _)⟩
  case round =>
    obtain ⟨j, hj, hb, hg⟩ := hrel
    obtain ⟨p, hp⟩ : ∃ p, p = k + j := ⟨_, rfl⟩
    rw [← hp] at hb
    have q0 := hb.cell 0
    have q1 := hb.cell 1
    have z1 := hb.frozen 1
    simp at q0 q1
    have hpo := posN13_of hb
    have HBR := Lib.hid hb
    have HG := Lib.hid hg
    have hw : IntKind.i64.wrap ((p : Int) - k) = (j : Int) := by rw [IntWalk.i64_in _ (by omega)]; omega
    clear hb hg
    by_cases hlt : j < rl
    · obtain ⟨c, hc, hcB⟩ := R3.out j hlt
      rw [← hp] at hc
      obtain ⟨hi, hz⟩ := tx_byte HT.out hc
      have hpl : p < T.length := gt_lt hc
      have h1 : (p : Int) < T.length := by omega
      have h2 : (j : Int) < 4 := by omega
      have h3 : 0 ≤ (p : Int) ∧ (p : Int) < T.length := by omega
      have hcall := fun W => isDig13_any c W
      rw [hcB] at hcall
      have hw2 : IntKind.i64.wrap ((p : Int) + 1) = (p : Int) + 1 := IntWalk.i64_in _ (by omega)
      have HP := Lib.hid hp
      have HPO := Lib.hid hpo
      clear hp hc hcB hpo
      go_upto_region 2 with fail
      go_quiet ((go_at_call 60; exact Calls.quiet_of_same (hcall _)))
      go_wp2_with fail
      have hs := (Blk.next HBR.out (below_drewN (Below.refl _ _) nq)).set_ 1 (.int .i64 ((p : Int) + 1))
      have hs2 : RdD ((wr.drewN nq).setCell ⟨rd, 1, none⟩ (.int .i64 ((p : Int) + 1))) rd T (k + (j + 1)) := by
        unfold RdD
        rw [show ((k + (j + 1) : Nat) : Int) = (p : Int) + 1 by have := HP.out; omega]
        exact hs
      have hpo2 := posN13_of hs2
      refine ⟨⟨j + 1, by omega, hs2, turn_set (turn_next HG.out (below_drewN (Below.refl _ _) _)) _ _⟩, ?_⟩
      have e1 := HP.out
      have e2 := HPO.out
      first
        | (rw [hpo2, e2]; omega)
        | (show T.length - posN13 _ rd < T.length - posN13 _ rd; fail "M")
    · obtain rfl : j = rl := by omega
      have hend : (decide ((p : Int) < T.length) = false) ∨ ((p : Int) < T.length ∧ decide ((j : Int) < 4) = false) ∨ ((p : Int) < T.length ∧ (j : Int) < 4 ∧ ∃ c, T[p]? = some c ∧ digB c = false) := by
        rcases Nat.lt_or_ge p T.length with h | h
        · rcases Nat.lt_or_ge j 4 with h2 | h2
          · refine .inr (.inr ⟨by omega, by omega, T[p], List.getElem?_eq_getElem h, ?_⟩)
            exact R4.out h2 _ (by rw [← hp]; exact List.getElem?_eq_getElem h)
          · exact .inr (.inl ⟨by omega, decide_eq_false (by omega)⟩)
        · exact .inl (decide_eq_false (by omega))
      have hsl : (tx T).extract k p = tx V := by
        rw [tx_extract, R5.out]
        congr 2
        omega
      have hs1 : 0 ≤ (k : Int) ∧ (k : Int) ≤ p ∧ (p : Int) ≤ T.length := by omega
      have hs2 : ((k : Int) ≤ p) := by omega
      have hs3 : ((p : Int) ≤ T.length) := by omega
      have HGT : Hid (decide (k < p) = decide (0 < j)) := Lib.hid (by rw [Bool.eq_iff_iff]; simp; omega)
      have HP := Lib.hid hp
      clear hp hpo hlt
      rcases hend with h | ⟨h1, h2⟩ | ⟨h1, h2, c, hc, hcB⟩
      · have h' : decide (p < T.length) = false := by simpa using h
        go_upto_region 2 with fail
        go_quiet (fail)
        go_wp2_with fail
        go_quiet (fail)
        go_wp2_with fail
        go_ret2
        refine ⟨?_, ?_, ?_⟩
        · show Ending.returned (.tuple #[.string (tx V), .bool (decide (k < p))]) = _
          rw [HGT.out]
        · unfold RdD
          rw [← HP.out]
          exact Blk.next HBR.out (below_drewN (below_drewN (Below.refl _ _) _) _)
        · exact turn_next HG.out (below_drewN (below_drewN (Below.refl _ _) _) _)
      · go_upto_region 2 with fail
        go_quiet (fail)
        go_wp2_with fail
        go_quiet (fail)
        go_wp2_with fail
        go_ret2
        refine ⟨?_, ?_, ?_⟩
        · show Ending.returned (.tuple #[.string (tx V), .bool (decide (k < p))]) = _
          rw [HGT.out]
        · unfold RdD
          rw [← HP.out]
          exact Blk.next HBR.out (below_drewN (below_drewN (Below.refl _ _) _) _)
        · exact turn_next HG.out (below_drewN (below_drewN (Below.refl _ _) _) _)
      · obtain ⟨hi, hz⟩ := tx_byte HT.out hc
        have h3 : 0 ≤ (p : Int) ∧ (p : Int) < T.length := by omega
        have hcall := fun W => isDig13_any c W
        rw [hcB] at hcall
        clear hc hcB
        go_upto_region 2 with fail
        go_quiet ((go_at_call 60; exact Calls.quiet_of_same (hcall _)))
        go_wp2_with fail
        go_quiet (fail)
        go_wp2_with fail
        go_ret2
        refine ⟨?_, ?_, ?_⟩
        · show Ending.returned (.tuple #[.string (tx V), .bool (decide (k < p))]) = _
          rw [HGT.out]
        · unfold RdD
          rw [← HP.out]
          exact Blk.next HBR.out (below_drewN (below_drewN (Below.refl _ _) _) _)
        · exact turn_next HG.out (below_drewN (below_drewN (Below.refl _ _) _) _)
end Go.Proofs.YtodnicaidmilkaaDoor
