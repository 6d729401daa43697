/-
  The walk of ConfigUpward.
-/
import Derived.Test.YtaeaneakpkkcnaaWCaps
namespace Go.Proofs.Ytaeaneakpkkcnaa
open Go.RowKit
set_option maxRecDepth 100000
set_option linter.unusedVariables false

/-- In a valid configuration the target of each rule but the last one is a later rule. -/
theorem tgt_up {s : ByteArray} {R : List Rl} {f : Int} (h : chk s R f = 0) {j : Nat} {r : Rl} (hr : R[j]? = some r) (hj : j + 1 < R.length) : ∃ q : Nat, r.t = q ∧ j < q ∧ q < R.length := by
  have h1 := (ruleE_ok ((chk_ok h).2.2.2.1 j r hr)).2.2
  unfold tgtOk at h1
  rw [if_neg (by omega)] at h1
  exact ⟨r.t.toNat, by omega, by omega, by omega⟩
theorem tgt_last {s : ByteArray} {R : List Rl} {f : Int} (h : chk s R f = 0) {j : Nat} {r : Rl} (hr : R[j]? = some r) (hj : j + 1 = R.length) : r.t = j := by
  have h1 := (ruleE_ok ((chk_ok h).2.2.2.1 j r hr)).2.2
  unfold tgtOk at h1
  rw [if_pos hj] at h1
  exact h1
theorem aim_step {R : List Rl} {b k : Nat} {r : Rl} (hr : R[k]? = some r) : ((R.take (k + 1)).any fun x => decide (x.t = (b : Int))) = (((R.take k).any fun x => decide (x.t = (b : Int))) || decide (r.t = (b : Int))) := by
  have hk := gt_lt hr
  have e : R[k] = r := by
    have := List.getElem?_eq_getElem hk
    rw [this] at hr
    injection hr
  rw [List.take_add_one, List.any_append, List.getElem?_eq_getElem hk, e]
  simp

theorem start_bool (b : Nat) (R : List Rl) : Value.bool ((b : Int) == 0) = .bool (b == 0 || (R.take 0).any fun x => decide (x.t = (b : Int))) := by
  rw [List.take_zero, List.any_nil, Bool.or_false]
  congr 1
  rw [Bool.eq_iff_iff]
  simp
set_option maxHeartbeats 8000000 in
theorem walkUp (Al : Option Addr) (nl cl : Nat) (w : World) (hL : ListP w w.heap.size Al nl cl) :
    Calls Try.prog 4 #[.slice Al nl cl] w fun e w' => e = .returned (.bool true) ∧ Below w.heap.size w w' := by
  have HL := Lib.hid hL
  clear hL
  go_enter Try.func4, Try.ntmps4
  go_wp2_with fail
  refine (deck_any Al nl cl w HL.out).mono ?_
  rintro e U2 ⟨rfl, hd, hb, hz⟩
  have HDK := Lib.hid hd
  have HBU2 := Lib.hid hb
  clear hd hb
  go_wp2_with fail
  refine (cfg_any w.heap.size U2 HDK.out).mono ?_
  rintro e U3 ⟨s, A, c, R, f, rfl, hra, hwf, hs, hc, hG⟩
  have HBU3 := Lib.hid (below_turn HBU2.out hG (Nat.le_refl _))
  obtain ⟨V, hV⟩ : ∃ V, V = U3.alloc (.cells #[.string s, .slice A R.length c, .int .i64 f] 24) := ⟨_, rfl⟩
  have hbv : Below U3.heap.size U3 V := by rw [hV]; exact (Below.refl _ _).alloc (Nat.le_refl _) _
  obtain ⟨cb, hcb⟩ : ∃ b, b = U3.heap.size := ⟨_, rfl⟩
  have BY := Lib.hid (show Blk V cb 24 #[.string s, .slice A R.length c, .int .i64 f] by rw [hV, hcb]; exact Blk.new _ _ _)
  have HBV := Lib.hid (below_step HBU3.out HBU3.out.size hbv)
  have HRA := Lib.hid (hra.lt.next hbv)
  have HWF := Lib.hid hwf
  have HC := Lib.hid hc
  have HV := Lib.hid hV
  have HCB := Lib.hid hcb
  obtain ⟨n1, n4⟩ : 1 ≤ R.length ∧ R.length ≤ 4 := ⟨(chk_ok hc).2.1, (chk_ok hc).2.2.1⟩
  have HALL := Lib.hid ((allB_iff R).1 (chk_ok hc).2.2.2.2.1)
  have c1 := check_any s A c R f V HRA.out HWF.out
  rw [hc] at c1
  have p0 := BY.out.cell 0
  have p1 := BY.out.cell 1
  have p2 := BY.out.cell 2
  simp at p0 p1 p2
  clear hV hbv hra hwf hc hG hcb
  have hnn : IntKind.i64.wrap ((R.length : Int) - 1) = ((R.length - 1 : Nat) : Int) := by rw [IntWalk.i64_in _ (by omega)]; omega
  go_wp2_with fail
  rw [← HV.out, ← HCB.out]
  go_wp2_with fail
  refine c1.mono ?_
  rintro e V1 ⟨rfl, hb1⟩
  have HB1 := Lib.hid (below_step HBV.out HBV.out.size hb1)
  have BY1 := Lib.hid (BY.out.next hb1)
  have HRA1 := HRA.out.next hb1
  obtain ⟨r0, hr0⟩ := gt_of (l := R) (j := 0) (by omega)
  obtain ⟨g, o, rfl, _, _, _⟩ := HRA1.at_ hr0
  have HRA1 := Lib.hid HRA1
  clear c1 hb1 p0 p1 p2 hr0
  have p0 := BY1.out.cell 0
  have p1 := BY1.out.cell 1
  have p2 := BY1.out.cell 2
  simp at p0 p1 p2
  have HAT := Lib.hid (fun (j : Nat) (r : Rl) (h : R[j]? = some r) => show V1.cell? ⟨g, o + j * 4 + 3, none⟩ = some (.int .i64 r.t) by
    obtain ⟨g', o', e, _, _, _, _, _, h3⟩ := HRA1.out.at_ h
    injection e with e
    injection e with e1 e2
    subst e1 e2
    exact h3)
  obtain ⟨n, hn⟩ : ∃ n, n = R.length := ⟨_, rfl⟩
  have HN := Lib.hid hn
  rw [← hn] at n1 n4 hnn p1 ⊢
  clear hn
  go_wp2_with fail
  go_loop [5] (fun i => ∃ b : Nat, b ≤ n ∧ i = .int .i64 b) (fun i => n - (intOf i).toNat)
  case atStart => exact ⟨0, by omega, rfl⟩
  case round =>
    obtain ⟨b, hb, rfl⟩ := hrel
    by_cases hlt : b < n
    · have hlt2 : (b : Int) < n := by omega
      have hwb : IntKind.i64.wrap ((b : Int) + 1) = (b : Int) + 1 := IntWalk.i64_in _ (by omega)
      go_wp2_with fail
      go_loop [6, 7] (fun a st => ∃ a' s' : Nat, a = .int .i64 a' ∧ st = .int .i64 s' ∧ s' ≤ a' ∧ a' < n) (fun a _ => n - (intOf a).toNat)
      case atStart => exact ⟨b, 0, rfl, rfl, by omega, hlt⟩
      case round =>
        obtain ⟨a', s', rfl, rfl, hsa, han⟩ := hrel
        by_cases hend : a' + 1 = n
        · have he : ((a' : Int) != ((n - 1 : Nat) : Int)) = false := by simp; omega
          go_wp2_with fail
          go_loop [8, 9] (fun am k => ∃ k' : Nat, k' ≤ b ∧ k = .int .i64 k' ∧ am = .bool (b == 0 || (R.take k').any fun x => decide (x.t = (b : Int)))) (fun _ k => b - (intOf k).toNat)
          case atStart => exact ⟨0, by omega, rfl, start_bool b R⟩
          case round =>
            obtain ⟨k', hk', rfl, rfl⟩ := hrel
            obtain ⟨G, hG⟩ : ∃ G, G = (b == 0 || (R.take k').any fun x => decide (x.t = (b : Int))) := ⟨_, rfl⟩
            rw [← hG]
            have HG := Lib.hid hG
            by_cases hkb : k' < b
            · have hkb2 : (k' : Int) < b := by omega
              have hki : 0 ≤ (k' : Int) ∧ (k' : Int) < n := by omega
              have hwk : IntKind.i64.wrap ((k' : Int) + 1) = (k' : Int) + 1 := IntWalk.i64_in _ (by omega)
              obtain ⟨r, hr⟩ := gt_of (l := R) (j := k') (by have := HN.out; omega)
              have HST := Lib.hid (aim_step (b := b) hr)
              have ct := HAT.out k' r hr
              clear hG hr
              obtain ⟨x, hx⟩ : ∃ x, x = r.t := ⟨_, rfl⟩
              rw [← hx] at ct
              have HX := Lib.hid hx
              clear hx
              cases G with
              | true =>
                have HN1 : Hid ((b == 0 || (R.take (k' + 1)).any fun x => decide (x.t = (b : Int))) = true) := Lib.hid (by rw [HST.out, ← Bool.or_assoc, ← HG.out, Bool.true_or])
                go_wp2_with fail
                exact ⟨⟨k' + 1, by omega, by go_num, by rw [HN1.out]⟩, by simp [intOf]; omega⟩
              | false =>
                have HN1 : Hid ((b == 0 || (R.take (k' + 1)).any fun x => decide (x.t = (b : Int))) = decide (x = (b : Int))) := Lib.hid (by rw [HST.out, ← Bool.or_assoc, ← HG.out, Bool.false_or, HX.out])
                by_cases hxb : x = (b : Int)
                · have hxb2 : (x == (b : Int)) = true := by simpa using hxb
                  have HD := Lib.hid (decide_eq_true hxb)
                  clear hxb
                  go_wp2_with fail
                  exact ⟨⟨k' + 1, by omega, by go_num, by rw [HN1.out, HD.out]⟩, by simp [intOf]; omega⟩
                · have hxb2 : (x == (b : Int)) = false := by simpa using hxb
                  have HD := Lib.hid (decide_eq_false hxb)
                  clear hxb
                  go_wp2_with fail
                  exact ⟨⟨k' + 1, by omega, by go_num, by rw [HN1.out, HD.out]⟩, by simp [intOf]; omega⟩
            · have hkb2 : ¬ (k' : Int) < b := by omega
              obtain rfl : k' = b := by omega
              have hGt : G = true := by
                rw [hG, Bool.or_eq_true, beq_iff_eq]
                rcases Nat.eq_zero_or_pos k' with h | h
                · exact .inl h
                · exact .inr (HALL.out k' h (by have := HN.out; omega))
              subst hGt
              clear hG
              go_wp2_with fail
              exact ⟨⟨k' + 1, by omega, by go_num⟩, by simp [intOf]; omega⟩
        · have he : ((a' : Int) != ((n - 1 : Nat) : Int)) = true := by simp; omega
          have hs2 : (s' : Int) ≤ n := by omega
          have hai : 0 ≤ (a' : Int) ∧ (a' : Int) < n := by omega
          have hws : IntKind.i64.wrap ((s' : Int) + 1) = (s' : Int) + 1 := IntWalk.i64_in _ (by omega)
          obtain ⟨r, hr⟩ := gt_of (l := R) (j := a') (by have := HN.out; omega)
          obtain ⟨q, hq, q1, q2⟩ := tgt_up HC.out hr (by have := HN.out; omega)
          rw [← HN.out] at q2
          have ct := HAT.out a' r hr
          rw [hq] at ct
          have hqa : ¬ (q : Int) ≤ a' := by omega
          clear hr hq
          go_wp2_with fail
          exact ⟨⟨q, s' + 1, rfl, by go_num, by omega, q2⟩, by simp [intOf]; omega⟩
    · have hlt2 : ¬ (b : Int) < n := by omega
      have hni : 0 ≤ ((n - 1 : Nat) : Int) ∧ ((n - 1 : Nat) : Int) < n := by omega
      obtain ⟨r, hr⟩ := gt_of (l := R) (j := n - 1) (by have := HN.out; omega)
      have ct := HAT.out (n - 1) r hr
      rw [tgt_last HC.out hr (by have := HN.out; omega)] at ct
      have aw := fun W => awake_any W
      clear hr
      go_wp2_with fail
      refine (aw _).mono ?_
      rintro e V3 ⟨rfl, hb3⟩
      have HB3 := Lib.hid (below_step HB1.out HB1.out.size hb3)
      clear aw hb3
      go_wp2
      go_ret
      exact ⟨rfl, HB3.out⟩
end Go.Proofs.Ytaeaneakpkkcnaa
