/-
  The reference's reader: number.
-/
import Derived.Test.YtodnicaidmilkaaDoorNRd
import Derived.LoopTactic
namespace Go.Proofs.YtodnicaidmilkaaDoor
open Go.RowKit
set_option maxRecDepth 100000
set_option linter.unusedVariables false

def nmV (L : List Nat) : Int := match numP L with
  | some (n, _) => n
  | none => 0
def nmS (L : List Nat) : List Nat := match numP L with
  | some (_, K) => K
  | none => L
def nmB (L : List Nat) (b : Bool) : Bool := match numP L with
  | some _ => b
  | none => true
def digN (L : List Nat) : Nat := (L.takeWhile digB).length
theorem digN_le (L : List Nat) : digN L ≤ L.length := by
  unfold digN
  exact (List.takeWhile_sublist _).length_le
theorem take_digN : ∀ L : List Nat, L.take (digN L) = L.takeWhile digB ∧ L.drop (digN L) = L.dropWhile digB
  | [] => ⟨rfl, rfl⟩
  | c :: L => by
    obtain ⟨i1, i2⟩ := take_digN L
    unfold digN at *
    rw [List.takeWhile_cons, List.dropWhile_cons]
    split
    · rw [List.length_cons, List.take_succ_cons, List.drop_succ_cons, i1, i2]
      exact ⟨rfl, rfl⟩
    · exact ⟨rfl, rfl⟩
theorem dig_before {L : List Nat} {k c : Nat} (hk : k < digN L) (hc : L[k]? = some c) : digB c = true := by
  refine digs_all L c ?_
  rw [← (take_digN L).1]
  refine List.mem_iff_getElem?.2 ⟨k, ?_⟩
  rw [List.getElem?_take, if_pos hk]
  exact hc
theorem dig_at {L : List Nat} {c : Nat} (hc : L[digN L]? = some c) : digB c = false := by
  refine drop_noDig L c ?_
  rw [← (take_digN L).2, List.head?_drop]
  exact hc
theorem numP_no {L : List Nat} (h : digN L = 0 ∨ 4 < digN L ∨ (1 < digN L ∧ L[0]? = some 48)) (b : Bool) : nmV L = 0 ∧ nmS L = L ∧ nmB L b = true := by
  have e : numP L = none := by
    unfold numP
    rw [if_pos]
    rcases h with h | h | ⟨h, h'⟩
    · exact .inl h
    · exact .inr (.inl h)
    · exact .inr (.inr ⟨h, by rw [List.head?_eq_getElem?]; exact h'⟩)
  unfold nmV nmS nmB
  rw [e]
  exact ⟨rfl, rfl, rfl⟩
theorem numP_yes {L : List Nat} (h : ¬ (digN L = 0 ∨ 4 < digN L ∨ (1 < digN L ∧ L[0]? = some 48))) (b : Bool) : nmV L = valD (L.take (digN L)) ∧ nmS L = L.drop (digN L) ∧ nmB L b = b := by
  have e : numP L = some (valD (L.takeWhile digB), L.dropWhile digB) := by
    unfold numP
    rw [if_neg]
    rintro (h' | h' | ⟨h', h''⟩)
    · exact h (.inl h')
    · exact h (.inr (.inl h'))
    · exact h (.inr (.inr ⟨h', by rw [← List.head?_eq_getElem?]; exact h''⟩))
  unfold nmV nmS nmB
  rw [e, (take_digN L).1, (take_digN L).2]
  exact ⟨rfl, rfl, rfl⟩
theorem valD_snoc (D : List Nat) (c : Nat) : valD (D ++ [c]) = valD D * 10 + (c - 48) := by
  unfold valD
  rw [List.foldl_append]
  rfl
theorem valD_lt : ∀ (k : Nat) (D : List Nat), D.length = k → (∀ c ∈ D, c ≤ 57) → valD D < 10 ^ k
  | 0, D, h, _ => by
    rw [List.length_eq_zero_iff.1 h]
    decide
  | k + 1, D, h, hd => by
    have hne : D ≠ [] := fun e => by rw [e] at h; simp at h
    have e := List.dropLast_concat_getLast hne
    rw [← e, valD_snoc]
    have ih := valD_lt k D.dropLast (by simp [h]) fun c hc => hd c (List.dropLast_subset _ hc)
    have := hd (D.getLast hne) (List.getLast_mem hne)
    rw [Nat.pow_succ]
    omega

set_option maxHeartbeats 4000000 in
theorem number_any (rd : Nat) (L : List Nat) (b : Bool) (w : World) (hL : Byt L) (hl : L.length ≤ 1024) (hB : Blk w rd 65 #[.string (tx L), .bool b]) :
    Calls Tryd.prog 29 #[.pointer (some ⟨rd, 0, none⟩)] w (RdOf w rd (.int .i64 (nmV L)) (nmS L) (nmB L b)) := by
  have q0 := hB.cell 0
  have q1 := hB.cell 1
  have z0 := hB.frozen 0
  have z1 := hB.frozen 1
  simp at q0 q1
  have s1 := tx_size L
  have HBB := Lib.hid hB
  have HLB := Lib.hid hL
  have gr : Hid (∀ i u, w.grownBy (w.setCell ⟨rd, i, none⟩ u) (some rd)) := Lib.hid fun i u => turn_set (turn_below (Below.refl _ _)) i u
  have hdl := digN_le L
  obtain ⟨RV, hRV⟩ : ∃ x, x = nmV L := ⟨_, rfl⟩
  obtain ⟨RS, hRS⟩ : ∃ x, x = nmS L := ⟨_, rfl⟩
  obtain ⟨RB, hRB⟩ : ∃ x, x = nmB L b := ⟨_, rfl⟩
  rw [← hRV, ← hRS, ← hRB]
  have HNO := Lib.hid (fun (h : digN L = 0 ∨ 4 < digN L ∨ (1 < digN L ∧ L[0]? = some 48)) => show RV = 0 ∧ RS = L ∧ RB = true by rw [hRV, hRS, hRB]; exact numP_no h b)
  have HYE := Lib.hid (fun (h : ¬ (digN L = 0 ∨ 4 < digN L ∨ (1 < digN L ∧ L[0]? = some 48))) => show RV = valD (L.take (digN L)) ∧ RS = L.drop (digN L) ∧ RB = b by rw [hRV, hRS, hRB]; exact numP_yes h b)
  clear hRV hRS hRB
  clear hB hL
  go_enter Tryd.func29, Tryd.ntmps29
  go_wp2_with fail
  go_loop [3] (fun i => ∃ k : Nat, k ≤ digN L ∧ i = .int .i64 k) (fun i => L.length - (intOf i).toNat)
  case atStart => exact ⟨0, Nat.zero_le _, rfl⟩
  case round =>
    obtain ⟨k, hk, rfl⟩ := hrel
    by_cases hlt : k < digN L
    · obtain ⟨c, hc⟩ := gt_of (l := L) (j := k) (by omega)
      have hd := dig_of (dig_before hlt hc)
      obtain ⟨hi, hz⟩ := tx_byte HLB.out hc
      have hk1 : (k : Int) < L.length := by omega
      have hk2 : 0 ≤ (k : Int) ∧ (k : Int) < L.length := by omega
      have h48 : (48 : Int) ≤ c := by omega
      have h57 : (c : Int) ≤ 57 := by omega
      have hw : IntKind.i64.wrap ((k : Int) + 1) = (k : Int) + 1 := IntWalk.i64_in _ (by omega)
      clear hc hd
      go_wp2_with fail
      exact ⟨⟨k + 1, by omega, by go_num⟩, by simp [intOf]; omega⟩
    · obtain rfl : k = digN L := by omega
      clear hlt hk
      have hst : (¬ (digN L : Int) < L.length) ∨ ∃ c : Nat, ∃ hi : digN L < (tx L).size, ((tx L)[digN L]'hi).toNat = c ∧ (digN L : Int) < L.length ∧ (0 ≤ (digN L : Int) ∧ (digN L : Int) < L.length) ∧ (((c : Int) < 48) ∨ ((48 : Int) ≤ c ∧ (57 : Int) < c)) := by
        rcases Nat.lt_or_ge (digN L) L.length with h | h
        · obtain ⟨c, hc⟩ := gt_of h
          have hd := dig_at hc
          obtain ⟨hi, hz⟩ := tx_byte HLB.out hc
          have hd : ¬ (48 ≤ c ∧ c ≤ 57) := by simpa [digB] using hd
          exact .inr ⟨c, hi, hz, by omega, by omega, by omega⟩
        · exact .inl (by omega)
      rcases hst with h0 | ⟨c, hi, hz, h0, hb0, h1 | ⟨h1, h2⟩⟩
      all_goals (
        by_cases m0 : digN L = 0
        · obtain ⟨e1, e2, e3⟩ := HNO.out (.inl m0)
          have k0 : ((digN L : Nat) : Int) = 0 := by omega
          have k1 : (((digN L : Nat) : Int) == 0) = true := by simpa using k0
          clear m0 k0
          go_wp2_with fail
          go_ret
          exact ⟨rfl, HBB.out.set_ 1 _, gr.out _ _⟩
        · have k1 : (((digN L : Nat) : Int) == 0) = false := by simpa using m0
          by_cases m1 : (4 : Int) < digN L
          · obtain ⟨e1, e2, e3⟩ := HNO.out (.inr (.inl (by omega)))
            clear m0
            go_wp2_with fail
            go_ret
            exact ⟨rfl, HBB.out.set_ 1 _, gr.out _ _⟩
          · obtain ⟨c0, hc0⟩ := gt_of (l := L) (j := 0) (by omega)
            obtain ⟨hi0, hz0⟩ := tx_byte HLB.out hc0
            have hp0 : 0 < (L.length : Int) := by omega
            by_cases m2 : (1 : Int) < digN L
            · by_cases m3 : c0 = 48
              · obtain ⟨e1, e2, e3⟩ := HNO.out (.inr (.inr ⟨by omega, by rw [← m3]; exact hc0⟩))
                rw [m3] at hz0
                clear m0 m3 hc0
                go_wp2_with fail
                go_ret
                exact ⟨rfl, HBB.out.set_ 1 _, gr.out _ _⟩
              · have m4 : ((c0 : Int) == 48) = false := by rw [beq_eq_false_iff_ne]; omega
                have hyes : ¬ (digN L = 0 ∨ 4 < digN L ∨ (1 < digN L ∧ L[0]? = some 48)) := by
                  rintro (h | h | ⟨_, h⟩)
                  · exact m0 h
                  · omega
                  · rw [hc0] at h; injection h with h; exact m3 h
                clear m0 m3 hc0
                obtain ⟨e1, e2, e3⟩ := HYE.out hyes
                have E1 := Lib.hid e1
                have E2 := Lib.hid e2
                have E3 := Lib.hid e3
                have HBY := Lib.hid (HLB.out.take (digN L))
                have hx : (tx L).extract 0 (digN L) = tx (L.take (digN L)) := by rw [tx_extract]; simp
                have hx2 : (tx L).extract (digN L) L.length = tx (L.drop (digN L)) := by rw [tx_extract, List.take_of_length_le (by simp)]
                have s3 : (tx (L.take (digN L))).size = digN L := by rw [tx_size, List.length_take]; omega
                have HDG := Lib.hid (fun (j c : Nat) (hj : j < digN L) (hc : L[j]? = some c) => dig_of (dig_before hj hc))
                have hcv := fun W => run_bytes_of_string (P := Tryd.prog) W 9 36 5 (tx (L.take (digN L))) Tryd.underlying9 Tryd.underlying36 Tryd.underlying5
                rw [s3] at hcv
                clear e1 e2 e3 hyes
                generalize digN L = k at *
                go_wp2_with fail
                obtain ⟨cp, hcp⟩ : ∃ cp, cp = grownCap w k 0 5 := ⟨_, rfl⟩
                rw [← hcp]
                obtain ⟨X, hX⟩ : ∃ X, X = World.drew (World.alloc w (Obj.cells (bytesRow (tx (L.take k)) cp) 5 ((bytesRow (tx (L.take k)) cp).size, (bytesRow (tx (L.take k)) cp).size + 1))) := ⟨_, rfl⟩
                rw [← hX]
                have hbX : Below w.heap.size w X := by rw [hX]; exact ((Below.refl _ _).alloc (Nat.le_refl _) _).drew
                have HCE : Hid (∀ (j c : Nat), j < k → L[j]? = some c → X.cell? ⟨w.heap.size, j, none⟩ = some (.int .u8 c)) := Lib.hid fun j c hj hc => by
                  have hc' : (L.take k)[j]? = some c := by rw [List.getElem?_take, if_pos hj]; exact hc
                  obtain ⟨hi', hz'⟩ := tx_byte HBY.out hc'
                  have e := bytesRow_at (tx (L.take k)) cp j hi'
                  have e2 : (tx (L.take k)).data[j].toNat = c := hz'
                  rw [e2] at e
                  rw [hX]
                  exact (World.cell?_alloc_mark w _ _ _ j).trans e
                have BX := HBB.out.next ((Below.refl w.heap.size w).trans (show Below w.heap.size w X from hbX))
                have x0 := BX.cell 0
                have x1 := BX.cell 1
                have xz := BX.frozen 0
                simp at x0 x1
                have HBX := Lib.hid BX
                have HGX := Lib.hid (turn_below (r := some rd) hbX)
                have hkl : k ≤ L.length := hdl
                clear hX hcp BX q0 q1 z0 z1
                go_loop [63, 4] (fun i a => ∃ j : Nat, j ≤ k ∧ i = .int .i64 j ∧ a = .int .i64 (valD (L.take j))) (fun i _ => k - (intOf i).toNat)
                case atStart => exact ⟨0, Nat.zero_le _, rfl, by simp [valD]⟩
                case round =>
                  obtain ⟨j, hj, rfl, rfl⟩ := hrel
                  by_cases hjk : j < k
                  · obtain ⟨d, hd⟩ := gt_of (l := L) (j := j) (by omega)
                    have ce := HCE.out j d hjk hd
                    obtain ⟨d1, d2⟩ := HDG.out j d hjk hd
                    have hv := valD_lt j (L.take j) (by rw [List.length_take]; omega) (fun y hy => by
                      obtain ⟨i, hi⟩ := List.mem_iff_getElem?.1 hy
                      rw [List.getElem?_take] at hi
                      split at hi
                      · exact (HDG.out i y (by omega) hi).2
                      · cases hi)
                    have h104 : 10 ^ j ≤ 10 ^ 3 := Nat.pow_le_pow_right (by decide) (by omega)
                    have hsn : Hid (valD (L.take (j + 1)) = valD (L.take j) * 10 + (d - 48)) := Lib.hid (by rw [List.take_add_one, hd, Option.toList_some, valD_snoc])
                    have hjk2 : (j : Int) < k := by omega
                    have hjk3 : 0 ≤ (j : Int) ∧ (j : Int) < k := by omega
                    obtain ⟨z, hz9⟩ : ∃ z, z = valD (L.take j) := ⟨_, rfl⟩
                    rw [← hz9] at hv hsn ⊢
                    have hz4 : z < 1000 := by omega
                    have w1 : IntKind.i64.wrap ((z : Int) * 10) = (z : Int) * 10 := IntWalk.i64_in _ (by omega)
                    obtain ⟨d', rfl⟩ : ∃ d', d = 48 + d' := ⟨d - 48, by omega⟩
                    have w2 : IntKind.u8.wrap (((48 + d' : Nat) : Int) - 48) = (d' : Int) := by rw [show ((48 + d' : Nat) : Int) - 48 = d' by omega]; unfold IntKind.wrap; simp [IntKind.bits, IntKind.signed]; omega
                    have w3 : IntKind.i64.wrap (d' : Int) = d' := IntWalk.i64_in _ (by omega)
                    have w4 : IntKind.i64.wrap ((z : Int) * 10 + d') = (z : Int) * 10 + d' := IntWalk.i64_in _ (by omega)
                    have w5 : IntKind.i64.wrap ((j : Int) + 1) = (j : Int) + 1 := IntWalk.i64_in _ (by omega)
                    clear hv h104 hd hz9
                    go_wp2_with fail
                    exact ⟨⟨j + 1, by omega, by go_num, by rw [hsn.out]; congr 1; omega⟩, by simp [intOf]; omega⟩
                  · have hjk2 : ¬ (j : Int) < k := by omega
                    obtain rfl : j = k := by omega
                    go_wp2_with fail
                    go_ret
                    exact ⟨ret_i64 E1.out.symm, by rw [E2.out, E3.out]; exact HBX.out.set_ 0 _, turn_set HGX.out 0 _⟩
            · have hyes : ¬ (digN L = 0 ∨ 4 < digN L ∨ (1 < digN L ∧ L[0]? = some 48)) := by
                rintro (h | h | ⟨h, _⟩)
                · exact m0 h
                · omega
                · omega
              clear m0 hc0
              obtain ⟨e1, e2, e3⟩ := HYE.out hyes
              have E1 := Lib.hid e1
              have E2 := Lib.hid e2
              have E3 := Lib.hid e3
              have HBY := Lib.hid (HLB.out.take (digN L))
              have hx : (tx L).extract 0 (digN L) = tx (L.take (digN L)) := by rw [tx_extract]; simp
              have hx2 : (tx L).extract (digN L) L.length = tx (L.drop (digN L)) := by rw [tx_extract, List.take_of_length_le (by simp)]
              have s3 : (tx (L.take (digN L))).size = digN L := by rw [tx_size, List.length_take]; omega
              have HDG := Lib.hid (fun (j c : Nat) (hj : j < digN L) (hc : L[j]? = some c) => dig_of (dig_before hj hc))
              have hcv := fun W => run_bytes_of_string (P := Tryd.prog) W 9 36 5 (tx (L.take (digN L))) Tryd.underlying9 Tryd.underlying36 Tryd.underlying5
              rw [s3] at hcv
              clear e1 e2 e3 hyes
              generalize digN L = k at *
              go_wp2_with fail
              obtain ⟨cp, hcp⟩ : ∃ cp, cp = grownCap w k 0 5 := ⟨_, rfl⟩
              rw [← hcp]
              obtain ⟨X, hX⟩ : ∃ X, X = World.drew (World.alloc w (Obj.cells (bytesRow (tx (L.take k)) cp) 5 ((bytesRow (tx (L.take k)) cp).size, (bytesRow (tx (L.take k)) cp).size + 1))) := ⟨_, rfl⟩
              rw [← hX]
              have hbX : Below w.heap.size w X := by rw [hX]; exact ((Below.refl _ _).alloc (Nat.le_refl _) _).drew
              have HCE : Hid (∀ (j c : Nat), j < k → L[j]? = some c → X.cell? ⟨w.heap.size, j, none⟩ = some (.int .u8 c)) := Lib.hid fun j c hj hc => by
                have hc' : (L.take k)[j]? = some c := by rw [List.getElem?_take, if_pos hj]; exact hc
                obtain ⟨hi', hz'⟩ := tx_byte HBY.out hc'
                have e := bytesRow_at (tx (L.take k)) cp j hi'
                have e2 : (tx (L.take k)).data[j].toNat = c := hz'
                rw [e2] at e
                rw [hX]
                exact (World.cell?_alloc_mark w _ _ _ j).trans e
              have BX := HBB.out.next ((Below.refl w.heap.size w).trans (show Below w.heap.size w X from hbX))
              have x0 := BX.cell 0
              have x1 := BX.cell 1
              have xz := BX.frozen 0
              simp at x0 x1
              have HBX := Lib.hid BX
              have HGX := Lib.hid (turn_below (r := some rd) hbX)
              have hkl : k ≤ L.length := hdl
              clear hX hcp BX q0 q1 z0 z1
              go_loop [63, 4] (fun i a => ∃ j : Nat, j ≤ k ∧ i = .int .i64 j ∧ a = .int .i64 (valD (L.take j))) (fun i _ => k - (intOf i).toNat)
              case atStart => exact ⟨0, Nat.zero_le _, rfl, by simp [valD]⟩
              case round =>
                obtain ⟨j, hj, rfl, rfl⟩ := hrel
                by_cases hjk : j < k
                · obtain ⟨d, hd⟩ := gt_of (l := L) (j := j) (by omega)
                  have ce := HCE.out j d hjk hd
                  obtain ⟨d1, d2⟩ := HDG.out j d hjk hd
                  have hv := valD_lt j (L.take j) (by rw [List.length_take]; omega) (fun y hy => by
                    obtain ⟨i, hi⟩ := List.mem_iff_getElem?.1 hy
                    rw [List.getElem?_take] at hi
                    split at hi
                    · exact (HDG.out i y (by omega) hi).2
                    · cases hi)
                  have h104 : 10 ^ j ≤ 10 ^ 3 := Nat.pow_le_pow_right (by decide) (by omega)
                  have hsn : Hid (valD (L.take (j + 1)) = valD (L.take j) * 10 + (d - 48)) := Lib.hid (by rw [List.take_add_one, hd, Option.toList_some, valD_snoc])
                  have hjk2 : (j : Int) < k := by omega
                  have hjk3 : 0 ≤ (j : Int) ∧ (j : Int) < k := by omega
                  obtain ⟨z, hz9⟩ : ∃ z, z = valD (L.take j) := ⟨_, rfl⟩
                  rw [← hz9] at hv hsn ⊢
                  have hz4 : z < 1000 := by omega
                  have w1 : IntKind.i64.wrap ((z : Int) * 10) = (z : Int) * 10 := IntWalk.i64_in _ (by omega)
                  obtain ⟨d', rfl⟩ : ∃ d', d = 48 + d' := ⟨d - 48, by omega⟩
                  have w2 : IntKind.u8.wrap (((48 + d' : Nat) : Int) - 48) = (d' : Int) := by rw [show ((48 + d' : Nat) : Int) - 48 = d' by omega]; unfold IntKind.wrap; simp [IntKind.bits, IntKind.signed]; omega
                  have w3 : IntKind.i64.wrap (d' : Int) = d' := IntWalk.i64_in _ (by omega)
                  have w4 : IntKind.i64.wrap ((z : Int) * 10 + d') = (z : Int) * 10 + d' := IntWalk.i64_in _ (by omega)
                  have w5 : IntKind.i64.wrap ((j : Int) + 1) = (j : Int) + 1 := IntWalk.i64_in _ (by omega)
                  clear hv h104 hd hz9
                  go_wp2_with fail
                  exact ⟨⟨j + 1, by omega, by go_num, by rw [hsn.out]; congr 1; omega⟩, by simp [intOf]; omega⟩
                · have hjk2 : ¬ (j : Int) < k := by omega
                  obtain rfl : j = k := by omega
                  go_wp2_with fail
                  go_ret
                  exact ⟨ret_i64 E1.out.symm, by rw [E2.out, E3.out]; exact HBX.out.set_ 0 _, turn_set HGX.out 0 _⟩)
end Go.Proofs.YtodnicaidmilkaaDoor
