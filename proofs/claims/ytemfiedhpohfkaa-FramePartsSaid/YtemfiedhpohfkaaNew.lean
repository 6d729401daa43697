/-
  Contracts: new spaces.
-/
import Derived.Test.YtemfiedhpohfkaaRefs
import Derived.Laws.MakeOwn
import Derived.Deep.OwnRows
namespace Go.Proofs.Ytemfiedhpohfkaa
open Go.RowKit
set_option linter.unusedVariables false

theorem freeFrame_any (w : World) :
    Calls Try.prog 38 #[] w fun e w' => e = .returned (.agg #[.int .i64 (-1), .int .i64 (-1), .int .i64 (-1)]) ∧ Below w.heap.size w w' := by
  go_enter Try.func38, Try.ntmps38
  go_wp2
  exact bodyPost_ret (v := .agg #[.int .i64 (-1), .int .i64 (-1), .int .i64 (-1)]) (by simp [results, Try.results38, go_sem]) rfl ⟨rfl, (Below.refl _ _).alloc (Nat.le_refl _) _⟩

theorem isNum_any (n : Int) (w : World) :
    Calls Try.prog 32 #[.int .i64 n] w fun e w' => e = .returned (.bool (nfB n)) ∧ w = w' := by
  by_cases h1 : 2 ≤ n
  · by_cases h2 : n ≤ 64
    · go_enter Try.func32, Try.ntmps32
      go_wp2
      go_ret
      exact ⟨ret_bool (by simp [nfB]; omega), rfl⟩
    · go_enter Try.func32, Try.ntmps32
      go_wp2
      go_ret
      exact ⟨ret_bool (by simp [nfB]; omega), rfl⟩
  · go_enter Try.func32, Try.ntmps32
    go_wp2
    go_ret
    exact ⟨ret_bool (by simp [nfB]; omega), rfl⟩

theorem frame_info : (Try.prog.info? 53).map (fun i => (i.zero, i.size, i.bytes)) = some (some (.agg #[.int .i64 0, .int .i64 0, .int .i64 0]), 3, 24) := by kernel_rfl

theorem run_make_rowN {P : Program} (t e : TypeId) (i : TypeInfo) (z : Value) (ht : P.underlying t = some (.slice e)) (hi : P.info? e = some i) (hz : i.zero = some z)
    (kl kc : IntKind) (n c : Nat) (hnc : n ≤ c) (hbytes : i.bytes * c ≤ 281474976710656) (h63 : c ≤ 9223372036854775807) (w : World) :
    (Instr.makeSlice t (.int kl (n : Int)) (.int kc (c : Int))).run P w = .ok (.slice (some ⟨w.heap.size, 0, none⟩) n c) (w.alloc (.cells (madeCells z.cells (c * i.size)) e)) := by
  have hb : (i.bytes : Int) * (c : Int) ≤ 281474976710656 := by
    have h : ((i.bytes * c : Nat) : Int) ≤ 281474976710656 := by omega
    rwa [Int.natCast_mul] at h
  have hr := run_make (P := P) w t e i z ht hi hz kl kc n c (by omega) (by omega) hb (by omega)
  simp only [Int.toNat_natCast] at hr
  exact hr

theorem prod_cast (n k : Nat) : ((n * 2 ^ k : Nat) : Int) = (n : Int) * 2 ^ k := by simp
theorem prod_le {n k : Nat} (hn : n ≤ 64) (hk : k ≤ 8) : n * 2 ^ k ≤ 16384 := by
  have h := (prod_bd hn hk).2
  rw [← prod_cast] at h
  omega
theorem make_words {n k : Nat} (hn : n ≤ 64) (hk : k ≤ 8) (w : World) :
    (Instr.makeSlice 22 (.int .i64 ((n : Int) * 2 ^ k)) (.int .i64 ((n : Int) * 2 ^ k))).run Try.prog w = .ok (.slice (some ⟨w.heap.size, 0, none⟩) (n * 2 ^ k) (n * 2 ^ k)) (w.alloc (.cells (madeCells #[.int .u64 0] (n * 2 ^ k)) 63)) := by
  have h := run_make_row' (P := Try.prog) 22 63 (.int .u64 0) 8 Try.underlying22 word_info rfl .i64 .i64 (n * 2 ^ k) (by have := prod_le hn hk; omega) (by have := prod_le hn hk; omega) w
  rw [prod_cast] at h
  exact h
theorem made_own (w : World) (n : Nat) (hn : n ≤ 16384) : Own (w.alloc (.cells (madeCells #[.int .u64 0] n) 63)) w.heap.size (some ⟨w.heap.size, 0, none⟩) n n (fun _ => 0) := by
  refine ⟨Nat.le_refl _, by simp only [maxLen]; omega, .inr ⟨w.heap.size, _, rfl, Nat.le_refl _, heap_alloc_new w _, by simp [size_madeCells], fun j hj => ?_⟩⟩
  simp [madeCells, hj, Nat.mod_one]

theorem made_ownAt (w : World) (s : Nat) (hs : w.heap.size = s) (n : Nat) (hn : n ≤ 16384) : Own (w.alloc (.cells (madeCells #[.int .u64 0] n) 63)) s (some ⟨s, 0, none⟩) n n (fun _ => 0) := by
  subst hs
  exact made_own w n hn

/-- What holds while the entries of a new table are written. -/
def NewAt (w W : World) (g n : Nat) (i : Value) (wr : World) : Prop :=
  ∃ t : Nat, t ≤ n ∧ i = .int .i64 t ∧ OwnT wr g (some ⟨g, 0, none⟩) n n (fun j => if j < t then frFree else frZero) ∧ Below g W wr

/-- A new space: n free frames, their words 0. -/
def NewSp (k n : Nat) (w : World) (e : Ending) (w' : World) : Prop :=
  ∃ A A', e = .returned (.tuple #[.agg #[.int .i64 k, .slice A (n * 2 ^ k) (n * 2 ^ k), .slice A' n n], .int .i64 0]) ∧
    Own w' w.heap.size A (n * 2 ^ k) (n * 2 ^ k) (fun _ => 0) ∧ OwnT w' w.heap.size A' n n (fun _ => frFree) ∧ Below w.heap.size w w'

set_option maxHeartbeats 400000 in
theorem new_yes (k n : Nat) (w : World) (h1 : 3 ≤ k) (h2 : k ≤ 8) (h3 : 2 ≤ n) (h4 : n ≤ 64) :
    Calls Try.prog 17 #[.int .i64 k, .int .i64 n] w (NewSp k n w) := by
  have hs : shB k = true := by simp [shB]; omega
  have hf : nfB n = true := by simp [nfB]; omega
  obtain ⟨i0, hi0, hz0, hz1, hz2⟩ := info_parts frame_info
  have hmk := fun W => run_make_rowN (P := Try.prog) 23 53 i0 _ Try.underlying23 hi0 hz0 .i64 .i64 n n (Nat.le_refl _) (by rw [hz2]; omega) (by omega) W
  rw [hz1] at hmk
  have hmw := fun W => make_words (n := n) (k := k) h4 h2 W
  obtain ⟨q0, q1⟩ := prod_bd h4 h2
  have H := Lib.hid hs
  have HF := Lib.hid hf
  clear hs hf
  go_enter Try.func17, Try.ntmps17
  go_wp2_with (first
    | (go_at_call 31; refine (isShift_any _ _).mono ?_; rintro e w' ⟨rfl, rfl⟩; rw [H.out])
    | (go_at_call 32; refine (isNum_any _ _).mono ?_; rintro e w' ⟨rfl, rfl⟩; rw [HF.out]))
  obtain ⟨W, hW⟩ : ∃ W, W = w.alloc (.cells #[.int .i64 0, .slice none 0 0, .slice none 0 0] 25) := ⟨_, rfl⟩
  have hz : w.heap.size + 1 = W.heap.size := by rw [hW]; simp
  have st : NewAt w W W.heap.size n (.int .i64 0) (W.alloc (.cells (madeCells #[.int .i64 0, .int .i64 0, .int .i64 0] (n * 3)) 53)) := by
    refine ⟨0, by omega, rfl, ?_, (Below.refl _ _).alloc (Nat.le_refl _) _⟩
    exact (OwnT.made W n (by omega)).congr (fun j _ => by simp)
  rw [← hW, hz]
  have HW := Lib.hid hW
  have HZ := Lib.hid hz
  have ST := Lib.hid st
  clear hW hz st
  go_loopw [7, 21] (fun _ i wr => NewAt w W W.heap.size n i wr) (fun _ i _ => n - (intOf i).toNat)
  case atStart => exact ST.out
  case round =>
    obtain ⟨t, ht, rfl, ho, hb⟩ := hrel
    by_cases hlt : t < n
    · have HO := Lib.hid ho
      have HB := Lib.hid hb
      have hlt2 : (t : Int) < n := by omega
      clear ho hb
      go_wp2_with fail
      refine (freeFrame_any _).mono ?_
      rintro e w1 ⟨rfl, hb1⟩
      obtain ⟨g1, g2, c0, c1, c2, f0, f1, f2, hnew, _⟩ := (HO.out.below hb1).spotAt t hlt frFree
      have hbn := ((((below_next HB.out (Nat.le_refl _) hb1).setCell (p := ⟨W.heap.size, t * 3, none⟩) (Nat.le_refl _) (.int .i64 (-1))).setCell (p := ⟨W.heap.size, t * 3 + 1, none⟩) (Nat.le_refl _) (.int .i64 (-1))).setCell (p := ⟨W.heap.size, t * 3 + 2, none⟩) (Nat.le_refl _) (.int .i64 (-1)))
      have hnew2 := hnew.congr (F' := fun j => if j < t + 1 then frFree else frZero) (fun j hj => by
        by_cases e : j = t
        · subst e; simp
        · by_cases e2 : j < t
          · rw [if_neg e, if_pos e2, if_pos (by omega)]
          · rw [if_neg e, if_neg e2, if_neg (by omega)])
      have HN := Lib.hid hnew2
      have HBN := Lib.hid hbn
      clear hnew hbn hnew2 hb1 HO HB
      go_wp2
      go_roundw
      case rel => exact ⟨t + 1, by omega, by go_num, HN.out, HBN.out⟩
      case measure => simp [intOf]; omega
    · obtain rfl : t = n := by omega
      have z0 : w.heap.size < W.heap.size := by have := HZ.out; omega
      obtain ⟨z2, c0, c1, c2, f0, f1, f2⟩ := box3 (w := w) (wr := wr) (v0 := .int .i64 0) (v1 := .slice none 0 0) (v2 := .slice none 0 0) (t := 25) (B := W.heap.size) (by rw [← HW.out]; exact hb) z0
      have HO := Lib.hid (ho.congr (F' := fun _ => frFree) (fun j hj => if_pos hj))
      have HB := Lib.hid hb
      clear ho hb hlt ht
      go_wp2
      have hbw : Below w.heap.size w wr := by
        have h1 := HB.out
        rw [HW.out] at h1
        exact below_box h1
      refine bodyPost_ret (v := .tuple #[.agg #[.int .i64 k, .slice (some ⟨wr.heap.size, 0, none⟩) (t * 2 ^ k) (t * 2 ^ k), .slice (some ⟨W.heap.size, 0, none⟩) t t], .int .i64 0]) (by simp [results, Try.results17, go_sem, c0, c1, c2, z2]) rfl ⟨_, _, rfl, ?_, ?_, ?_⟩
      · exact (made_ownAt _ wr.heap.size (by simp) (t * 2 ^ k) (prod_le h4 h2)).lower (Nat.le_of_lt z2)
      · exact ((HO.out.put3 z0 _ _ _).below ((Below.refl _ _).alloc (Nat.le_refl _) _)).lower (Nat.le_of_lt z0)
      · exact (below_put3 hbw (Nat.le_refl _) _ _ _).alloc (by simpa using Nat.le_of_lt z2) _

theorem new_no (s n : Int) (w : World) (h : shB s = false ∨ nfB n = false) :
    Calls Try.prog 17 #[.int .i64 s, .int .i64 n] w fun e w' => e = .returned (.tuple #[.agg #[.int .i64 0, .slice none 0 0, .slice none 0 0], .int .i64 1]) ∧ Below w.heap.size w w' := by
  rcases hs : shB s with _ | _
  · have H := Lib.hid hs
    clear hs h
    go_enter Try.func17, Try.ntmps17
    go_wp2_with (go_at_call 31; refine (isShift_any _ _).mono ?_; rintro e w' ⟨rfl, rfl⟩; rw [H.out])
    exact bodyPost_ret (v := .tuple #[.agg #[.int .i64 0, .slice none 0 0, .slice none 0 0], .int .i64 1]) (by simp [results, Try.results17, go_sem]) rfl ⟨rfl, (Below.refl _ _).alloc (Nat.le_refl _) _⟩
  · have hf : nfB n = false := by
      rcases h with h | h
      · rw [hs] at h; cases h
      · exact h
    have H := Lib.hid hs
    have HF := Lib.hid hf
    clear hs hf h
    go_enter Try.func17, Try.ntmps17
    go_wp2_with (first
      | (go_at_call 31; refine (isShift_any _ _).mono ?_; rintro e w' ⟨rfl, rfl⟩; rw [H.out])
      | (go_at_call 32; refine (isNum_any _ _).mono ?_; rintro e w' ⟨rfl, rfl⟩; rw [HF.out]))
    exact bodyPost_ret (v := .tuple #[.agg #[.int .i64 0, .slice none 0 0, .slice none 0 0], .int .i64 1]) (by simp [results, Try.results17, go_sem]) rfl ⟨rfl, (Below.refl _ _).alloc (Nat.le_refl _) _⟩
end Go.Proofs.Ytemfiedhpohfkaa
