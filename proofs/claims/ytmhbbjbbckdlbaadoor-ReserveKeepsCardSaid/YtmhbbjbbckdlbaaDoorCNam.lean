/-
  Names: isLetter, isDigit, isName and the reference's Named.
-/
import Derived.Test.YtmhbbjbbckdlbaaDoorCPure
import Derived.Laws.Strings
import Derived.Outline
import Derived.LoopTactic
namespace Go.Proofs.YtmhbbjbbckdlbaaDoor
open Go.RowKit
set_option maxRecDepth 100000
set_option linter.unusedVariables false

theorem isLetter_any (c : Nat) (w : World) : Calls Tryd.prog 76 #[.int .u8 (c : Int)] w fun e w' => e = .returned (.bool (letB c)) ∧ w = w' := by
  by_cases h1 : (97 : Int) ≤ c
  · by_cases h2 : (c : Int) ≤ 122
    · go_enter Tryd.func76, Tryd.ntmps76
      go_wp2
      go_ret
      exact ⟨ret_bool (by simp [letB]; omega), rfl⟩
    · go_enter Tryd.func76, Tryd.ntmps76
      go_wp2
      go_ret
      exact ⟨ret_bool (by simp [letB]; omega), rfl⟩
  · go_enter Tryd.func76, Tryd.ntmps76
    go_wp2
    go_ret
    exact ⟨ret_bool (by simp [letB]; omega), rfl⟩
theorem isDigit_any (c : Nat) (w : World) : Calls Tryd.prog 77 #[.int .u8 (c : Int)] w fun e w' => e = .returned (.bool (digB c)) ∧ w = w' := by
  by_cases h1 : (48 : Int) ≤ c
  · by_cases h2 : (c : Int) ≤ 57
    · go_enter Tryd.func77, Tryd.ntmps77
      go_wp2
      go_ret
      exact ⟨ret_bool (by simp [digB]; omega), rfl⟩
    · go_enter Tryd.func77, Tryd.ntmps77
      go_wp2
      go_ret
      exact ⟨ret_bool (by simp [digB]; omega), rfl⟩
  · go_enter Tryd.func77, Tryd.ntmps77
    go_wp2
    go_ret
    exact ⟨ret_bool (by simp [digB]; omega), rfl⟩

set_option maxHeartbeats 8000000 in
theorem isName_any (s : ByteArray) (w : World) : Calls Tryd.prog 67 #[.string s] w fun e w' => e = .returned (.bool (nameB s)) ∧ w = w' := by
  by_cases h1 : (s.size : Int) < 1
  · have e : nameB s = false := nameB_no (by omega)
    rw [e]
    go_enter Tryd.func67, Tryd.ntmps67
    go_wp2
    go_ret
    exact ⟨rfl, rfl⟩
  · by_cases h2 : (16 : Int) < s.size
    · have e : nameB s = false := nameB_no (by omega)
      rw [e]
      go_enter Tryd.func67, Tryd.ntmps67
      go_wp2
      go_ret
      exact ⟨rfl, rfl⟩
    · have h0 : 0 < s.size := by omega
      have hz : (s[0]'h0).toNat = byteN s 0 := byteN_is h0
      have hl := fun W => isLetter_any (byteN s 0) W
      rcases hb : letB (byteN s 0) with _ | _
      · have e : nameB s = false := nameB_no (by rw [hb]; simp)
        rw [e]
        rw [hb] at hl
        clear e hb
        go_enter Tryd.func67, Tryd.ntmps67
        go_wp2_with (go_at_call 76; refine (hl _).mono ?_; rintro e w' ⟨rfl, rfl⟩)
        go_ret
        exact ⟨rfl, rfl⟩
      · have HB := Lib.hid hb
        rw [hb] at hl
        clear hb
        go_enter Tryd.func67, Tryd.ntmps67
        go_wp2_with (go_at_call 76; refine (hl _).mono ?_; rintro e w' ⟨rfl, rfl⟩)
        clear hl hz
        go_loop [20] (fun i => ∃ k : Nat, k ≤ s.size ∧ i = .int .i64 k ∧ ∀ j, j < k → chrB (byteN s j) = true) (fun i => s.size - (intOf i).toNat)
        case atStart => exact ⟨0, Nat.zero_le _, rfl, fun j hj => by omega⟩
        case round =>
          obtain ⟨k, hk, rfl, hok⟩ := hrel
          have HOK := Lib.hid hok
          clear hok
          by_cases hlt : k < s.size
          · have hlt2 : 0 ≤ (k : Int) ∧ (k : Int) < s.size := by omega
            have hz : (s[k]'hlt).toNat = byteN s k := byteN_is hlt
            have HZ : Hid (byteN s k = byteN s k) := Lib.hid rfl
            have hnx : Hid (chrB (byteN s k) = true → ∀ j, j < k + 1 → chrB (byteN s j) = true) := Lib.hid fun h j hj => by
              rcases (by omega : j < k ∨ j = k) with e | rfl
              · exact HOK.out j e
              · exact h
            have hno : Hid (chrB (byteN s k) = false → nameB s = false) := Lib.hid fun h => nameB_no (fun x => by have := x.2.2.2 k hlt; rw [h] at this; cases this)
            have hl := fun W => isLetter_any (byteN s k) W
            have hd := fun W => isDigit_any (byteN s k) W
            generalize byteN s k = c at *
            by_cases c1 : letB c = true
            · rw [c1] at hl
              have HC := Lib.hid c1
              clear c1 hd
              go_wp2_with (go_at_call 76; refine (hl _).mono ?_; rintro e w' ⟨rfl, rfl⟩)
              exact ⟨⟨k + 1, by omega, by go_num, hnx.out (by unfold chrB; rw [HC.out]; rfl)⟩, by simp [intOf]; omega⟩
            · have c1 : letB c = false := by simpa using c1
              rw [c1] at hl
              have HC := Lib.hid c1
              clear c1
              by_cases c2 : digB c = true
              · rw [c2] at hd
                have HD := Lib.hid c2
                clear c2
                go_wp2_with fail
                refine (hl _).mono ?_
                rintro e w' ⟨rfl, rfl⟩
                clear hl
                go_wp2_with fail
                refine (hd _).mono ?_
                rintro e w' ⟨rfl, rfl⟩
                clear hd
                go_wp2_with fail
                exact ⟨⟨k + 1, by omega, by go_num, hnx.out (by unfold chrB; rw [HC.out, HD.out]; rfl)⟩, by simp [intOf]; omega⟩
              · have c2 : digB c = false := by simpa using c2
                rw [c2] at hd
                have HD := Lib.hid c2
                clear c2
                by_cases c3 : (c : Int) = 45
                · have HE := Lib.hid c3
                  have c4 : ((c : Int) != 45) = false := by simpa using c3
                  clear c3
                  go_wp2_with fail
                  refine (hl _).mono ?_
                  rintro e w' ⟨rfl, rfl⟩
                  clear hl
                  go_wp2_with fail
                  refine (hd _).mono ?_
                  rintro e w' ⟨rfl, rfl⟩
                  clear hd
                  go_wp2_with fail
                  exact ⟨⟨k + 1, by omega, by go_num, hnx.out (by unfold chrB; rw [HC.out, HD.out]; simp; have := HE.out; omega)⟩, by simp [intOf]; omega⟩
                · have HE := Lib.hid c3
                  have c4 : ((c : Int) != 45) = true := by simpa using c3
                  go_wp2_with fail
                  refine (hl _).mono ?_
                  rintro e w' ⟨rfl, rfl⟩
                  clear hl
                  go_wp2_with fail
                  refine (hd _).mono ?_
                  rintro e w' ⟨rfl, rfl⟩
                  clear hd
                  go_wp2_with fail
                  go_ret
                  refine ⟨ret_bool ?_, rfl⟩
                  exact (hno.out (by unfold chrB; rw [HC.out, HD.out]; simp; have := HE.out; omega)).symm
          · have hlt2 : ¬ (k : Int) < s.size := by omega
            have HN := Lib.hid ((nameB_iff s).2 ⟨by omega, by omega, HB.out, fun j hj => HOK.out j (by omega)⟩)
            go_wp2
            go_ret
            exact ⟨ret_bool HN.out.symm, rfl⟩

set_option maxHeartbeats 8000000 in
theorem refName_any (s : ByteArray) (hs : s.size ≤ 9223372036854775807) (w : World) : Calls Tryd.prog 63 #[.string s] w fun e w' => e = .returned (.bool (nameB s)) ∧ w = w' := by
  go_enter Tryd.func63, Tryd.ntmps63
  go_wp2_with fail
  go_loop [3] (fun i => ∃ k : Nat, k ≤ s.size ∧ i = .int .i64 k ∧ (∀ j, j < k → chrB (byteN s j) = true) ∧ (0 < k → letB (byteN s 0) = true)) (fun i => s.size - (intOf i).toNat)
  case atStart => exact ⟨0, Nat.zero_le _, rfl, fun j hj => by omega, fun h => by omega⟩
  case round =>
    obtain ⟨k, hk, rfl, hok, hfi⟩ := hrel
    have HOK := Lib.hid hok
    have HFI := Lib.hid hfi
    clear hok hfi
    by_cases hlt : k < s.size
    · have hlt2 : 0 ≤ (k : Int) ∧ (k : Int) < s.size := by omega
      have hz : (s[k]'hlt).toNat = byteN s k := byteN_is hlt
      have hnx : Hid (chrB (byteN s k) = true → ∀ j, j < k + 1 → chrB (byteN s j) = true) := Lib.hid fun h j hj => by
        rcases (by omega : j < k ∨ j = k) with e | rfl
        · exact HOK.out j e
        · exact h
      have hnf : Hid ((k = 0 → letB (byteN s k) = true) → 0 < k + 1 → letB (byteN s 0) = true) := Lib.hid fun h _ => by
        rcases Nat.eq_zero_or_pos k with e | e
        · have := h e; rwa [e] at this
        · exact HFI.out e
      have hno : Hid (chrB (byteN s k) = false → nameB s = false) := Lib.hid fun h => nameB_no (fun x => by have := x.2.2.2 k hlt; rw [h] at this; cases this)
      have hn0 : Hid (k = 0 → letB (byteN s k) = false → nameB s = false) := Lib.hid fun e h => nameB_no (fun x => by have := x.2.2.1; rw [e] at h; rw [h] at this; cases this)
      generalize byteN s k = c at *
      by_cases c1 : (97 : Int) ≤ c ∧ (c : Int) ≤ 122
      · have HC : Hid (letB c = true) := Lib.hid (by simp [letB]; omega)
        obtain ⟨c1, c2⟩ := c1
        go_wp2
        exact ⟨⟨k + 1, by omega, by go_num, hnx.out (by unfold chrB; rw [HC.out]; rfl), hnf.out (fun _ => HC.out)⟩, by simp [intOf]; omega⟩
      · have HC : Hid (letB c = false) := Lib.hid (by simp [letB]; omega)
        have hcs : (¬ (97 : Int) ≤ c) ∨ ((97 : Int) ≤ c ∧ ¬ (c : Int) ≤ 122) := by omega
        rcases Nat.eq_zero_or_pos k with rfl | e
        · clear hlt2
          have HN := Lib.hid (hn0.out rfl HC.out)
          clear hn0 hnf
          rcases hcs with c2 | ⟨c2, c3⟩
          all_goals (
            go_wp2
            go_ret
            refine ⟨ret_bool ?_, rfl⟩
            exact HN.out.symm)
        · have hk0 : ((k : Int) == 0) = false := by simp; omega
          have HK := Lib.hid e
          by_cases c4 : (c : Int) = 45
          · have HE := Lib.hid c4
            rcases hcs with c2 | ⟨c2, c3⟩
            all_goals (
              go_wp2
              exact ⟨⟨k + 1, by omega, by go_num, hnx.out (by unfold chrB; rw [HC.out]; simp; have := HE.out; omega), hnf.out (fun h => by have := HK.out; omega)⟩, by simp [intOf]; omega⟩)
          · have c5 : ((c : Int) != 45) = true := by simpa using c4
            have HE := Lib.hid c4
            clear c4
            by_cases c6 : (48 : Int) ≤ c ∧ (c : Int) ≤ 57
            · have HD : Hid (digB c = true) := Lib.hid (by simp [digB]; omega)
              have c7 : ¬ (c : Int) < 48 := by omega
              have c8 : ¬ (57 : Int) < c := by omega
              clear c6
              rcases hcs with c2 | ⟨c2, c3⟩
              all_goals (
                go_wp2
                exact ⟨⟨k + 1, by omega, by go_num, hnx.out (by unfold chrB; rw [HD.out]; simp), hnf.out (fun h => by have := HK.out; omega)⟩, by simp [intOf]; omega⟩)
            · have HD : Hid (digB c = false) := Lib.hid (by simp [digB]; omega)
              have hds : ((c : Int) < 48) ∨ (¬ (c : Int) < 48 ∧ (57 : Int) < c) := by omega
              clear c6
              have HN := Lib.hid (hno.out (by unfold chrB; rw [HC.out, HD.out]; simp; have := HE.out; omega))
              rcases hcs with c2 | ⟨c2, c3⟩
              all_goals (
                rcases hds with d1 | ⟨d1, d2⟩
                all_goals (
                  go_wp2
                  go_ret
                  exact ⟨ret_bool HN.out.symm, rfl⟩))
    · have hlt2 : ¬ (k : Int) < s.size := by omega
      obtain rfl : k = s.size := by omega
      by_cases h1 : (1 : Int) ≤ s.size
      · by_cases h2 : (s.size : Int) ≤ 16
        · have HN := Lib.hid ((nameB_iff s).2 ⟨by omega, by omega, HFI.out (by omega), fun j hj => HOK.out j (by omega)⟩)
          go_wp2
          go_ret
          exact ⟨ret_bool HN.out.symm, rfl⟩
        · have HN := Lib.hid (nameB_no (s := s) (by omega))
          go_wp2
          go_ret
          exact ⟨ret_bool HN.out.symm, rfl⟩
      · have HN := Lib.hid (nameB_no (s := s) (by omega))
        go_wp2
        go_ret
        exact ⟨ret_bool HN.out.symm, rfl⟩
end Go.Proofs.YtmhbbjbbckdlbaaDoor
