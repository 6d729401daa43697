/-
  Names: isLetter, isDigit, isName and the reference's Named.
-/
import Derived.Test.YtnoeefbipdpeaaaCPure
import Derived.Laws.Strings
import Derived.Outline
import Derived.LoopTactic
namespace Go.Proofs.Ytnoeefbipdpeaaa
open Go.RowKit
set_option maxRecDepth 100000
set_option linter.unusedVariables false

set_option maxHeartbeats 8000000 in
theorem refName_any (s : ByteArray) (hs : s.size ≤ 9223372036854775807) (w : World) : Calls Try.prog 30 #[.string s] w fun e w' => e = .returned (.bool (nameB s)) ∧ w = w' := by
  go_enter Try.func30, Try.ntmps30
  go_wp2_with fail
  go_loop [3] (fun i => ∃ k : Nat, k ≤ s.size ∧ i = .int .i64 k ∧ (∀ j, j < k → chrB (byteN s j) = true) ∧ (0 < k → letB (byteN s 0) = true)) (fun i => s.size - (intOf i).toNat)
  case atStart => exact ⟨0, Nat.zero_le _, rfl, fun j hj => by omega, fun h => by omega⟩
  case round =>
    obtain ⟨k, hk, rfl, hok, hfi⟩ := hrel
    have HOK := Lib.hid hok
    have HFI := Lib.hid hfi
    clear hok hfi
    by_cases hlt : k < s.size
    · have hlt2 : 0 ≤ (k : Int) ∧ (k : Int) < s.size := by omega
      have hz : (s[k]'hlt).toNat = byteN s k := byteN_is hlt
      have hnx : Hid (chrB (byteN s k) = true → ∀ j, j < k + 1 → chrB (byteN s j) = true) := Lib.hid fun h j hj => by
        rcases (by omega : j < k ∨ j = k) with e | rfl
        · exact HOK.out j e
        · exact h
      have hnf : Hid ((k = 0 → letB (byteN s k) = true) → 0 < k + 1 → letB (byteN s 0) = true) := Lib.hid fun h _ => by
        rcases Nat.eq_zero_or_pos k with e | e
        · have := h e; rwa [e] at this
        · exact HFI.out e
      have hno : Hid (chrB (byteN s k) = false → nameB s = false) := Lib.hid fun h => nameB_no (fun x => by have := x.2.2.2 k hlt; rw [h] at this; cases this)
      have hn0 : Hid (k = 0 → letB (byteN s k) = false → nameB s = false) := Lib.hid fun e h => nameB_no (fun x => by have := x.2.2.1; rw [e] at h; rw [h] at this; cases this)
      generalize byteN s k = c at *
      by_cases c1 : (97 : Int) ≤ c ∧ (c : Int) ≤ 122
      · have HC : Hid (letB c = true) := Lib.hid (by simp [letB]; omega)
        obtain ⟨c1, c2⟩ := c1
        go_wp2
        exact ⟨⟨k + 1, by omega, by go_num, hnx.out (by unfold chrB; rw [HC.out]; rfl), hnf.out (fun _ => HC.out)⟩, by simp [intOf]; omega⟩
      · have HC : Hid (letB c = false) := Lib.hid (by simp [letB]; omega)
        have hcs : (¬ (97 : Int) ≤ c) ∨ ((97 : Int) ≤ c ∧ ¬ (c : Int) ≤ 122) := by omega
        rcases Nat.eq_zero_or_pos k with rfl | e
        · clear hlt2
          have HN := Lib.hid (hn0.out rfl HC.out)
          clear hn0 hnf
          rcases hcs with c2 | ⟨c2, c3⟩
          all_goals (
            go_wp2
            go_ret
            refine ⟨ret_bool ?_, rfl⟩
            exact HN.out.symm)
        · have hk0 : ((k : Int) == 0) = false := by simp; omega
          have HK := Lib.hid e
          by_cases c4 : (c : Int) = 45
          · have HE := Lib.hid c4
            rcases hcs with c2 | ⟨c2, c3⟩
            all_goals (
              go_wp2
              exact ⟨⟨k + 1, by omega, by go_num, hnx.out (by unfold chrB; rw [HC.out]; simp; have := HE.out; omega), hnf.out (fun h => by have := HK.out; omega)⟩, by simp [intOf]; omega⟩)
          · have c5 : ((c : Int) != 45) = true := by simpa using c4
            have HE := Lib.hid c4
            clear c4
            by_cases c6 : (48 : Int) ≤ c ∧ (c : Int) ≤ 57
            · have HD : Hid (digB c = true) := Lib.hid (by simp [digB]; omega)
              have c7 : ¬ (c : Int) < 48 := by omega
              have c8 : ¬ (57 : Int) < c := by omega
              clear c6
              rcases hcs with c2 | ⟨c2, c3⟩
              all_goals (
                go_wp2
                exact ⟨⟨k + 1, by omega, by go_num, hnx.out (by unfold chrB; rw [HD.out]; simp), hnf.out (fun h => by have := HK.out; omega)⟩, by simp [intOf]; omega⟩)
            · have HD : Hid (digB c = false) := Lib.hid (by simp [digB]; omega)
              have hds : ((c : Int) < 48) ∨ (¬ (c : Int) < 48 ∧ (57 : Int) < c) := by omega
              clear c6
              have HN := Lib.hid (hno.out (by unfold chrB; rw [HC.out, HD.out]; simp; have := HE.out; omega))
              rcases hcs with c2 | ⟨c2, c3⟩
              all_goals (
                rcases hds with d1 | ⟨d1, d2⟩
                all_goals (
                  go_wp2
                  go_ret
                  exact ⟨ret_bool HN.out.symm, rfl⟩))
    · have hlt2 : ¬ (k : Int) < s.size := by omega
      obtain rfl : k = s.size := by omega
      by_cases h1 : (1 : Int) ≤ s.size
      · by_cases h2 : (s.size : Int) ≤ 16
        · have HN := Lib.hid ((nameB_iff s).2 ⟨by omega, by omega, HFI.out (by omega), fun j hj => HOK.out j (by omega)⟩)
          go_wp2
          go_ret
          exact ⟨ret_bool HN.out.symm, rfl⟩
        · have HN := Lib.hid (nameB_no (s := s) (by omega))
          go_wp2
          go_ret
          exact ⟨ret_bool HN.out.symm, rfl⟩
      · have HN := Lib.hid (nameB_no (s := s) (by omega))
        go_wp2
        go_ret
        exact ⟨ret_bool HN.out.symm, rfl⟩
end Go.Proofs.Ytnoeefbipdpeaaa
