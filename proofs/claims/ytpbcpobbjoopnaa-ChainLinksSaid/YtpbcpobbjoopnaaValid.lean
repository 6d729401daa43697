/-
  Contract of package frame: Valid.
-/
import Derived.Test.YtpbcpobbjoopnaaLink
namespace Go.Proofs.Ytpbcpobbjoopnaa
open Go.RowKit
set_option linter.unusedVariables false

set_option maxHeartbeats 2000000 in
theorem valid_any (s : Int) (A A' : Option Addr) (nw c n c' : Nat) (wd : Nat → Int) (F : Nat → Fr) (w : World) (hA : Arr w w.heap.size A nw c wd) (hT : Tab w w.heap.size A' n c' F) :
    Calls Try.prog 31 #[.agg #[.int .i64 s, .slice A nw c, .slice A' n c']] w fun e w' => e = .returned (.bool (validB s nw wd n F)) ∧ Below w.heap.size w w' := by
  have hm1 := hA.2.1
  have hm2 := hT.2.1
  have hm3 := hA.1
  have hm4 := hT.1
  unfold maxLen at hm1 hm2
  have HA := Lib.hid hA
  have HT := Lib.hid hT
  clear hA hT
  rcases hs : shB s with _ | _
  · have HS := Lib.hid hs
    have hv : validB s nw wd n F = false := validB_no fun h => by have h1 := h.1; rw [hs] at h1; cases h1
    rw [hv]
    clear hs hv
    go_enter Try.func31, Try.ntmps31
    go_wp2
    go_quiet ((go_at_call 49; exact Calls.quiet_of_same ((isShift_any _ _).mono fun _ _ h => ⟨by rw [h.1, HS.out], h.2.symm⟩)))
    go_wp2
    go_ret
    exact ⟨rfl, ((Below.refl _ _).alloc (Nat.le_refl _) _).trans ⟨rfl, rfl, rfl, Nat.le_refl _, fun _ _ => rfl⟩⟩
  · obtain ⟨s1, s2⟩ := shB_yes hs
    obtain ⟨k, rfl⟩ : ∃ k : Nat, s = k := ⟨s.toNat, by omega⟩
    rcases hn : nfB n with _ | _
    · have HS := Lib.hid hs
      have HN := Lib.hid hn
      have hv : validB k nw wd n F = false := validB_no fun h => by have h1 := h.2.1; rw [hn] at h1; cases h1
      rw [hv]
      clear hs hn hv
      go_enter Try.func31, Try.ntmps31
      go_wp2
      go_quiet ((first | (go_at_call 49; exact Calls.quiet_of_same ((isShift_any _ _).mono fun _ _ h => ⟨by rw [h.1, HS.out], h.2.symm⟩)) | (go_at_call 50; exact Calls.quiet_of_same ((isNum_any _ _).mono fun _ _ h => ⟨by rw [h.1, HN.out], h.2.symm⟩))))
      go_wp2
      go_ret
      exact ⟨rfl, ((Below.refl _ _).alloc (Nat.le_refl _) _).trans ⟨rfl, rfl, rfl, Nat.le_refl _, fun _ _ => rfl⟩⟩
    · obtain ⟨n1, n2⟩ := nfB_yes hn
      have HS := Lib.hid hs
      have HN := Lib.hid hn
      have n64 : n ≤ 64 := by omega
      have k8 : k ≤ 8 := by omega
      have s1' : 3 ≤ k := by omega
      have hpc := prod_cast n k
      have hpl := prod_le n64 k8
      by_cases hw : nw = n * 2 ^ k
      · obtain ⟨W, hW⟩ : ∃ W, W = w.alloc (.cells #[.int .i64 k, .slice A nw c, .slice A' n c'] 25) := ⟨_, rfl⟩
        have BX : Blk W w.heap.size 25 #[.int .i64 k, .slice A nw c, .slice A' n c'] := by rw [hW]; exact Blk.new _ _ _
        have HBW : Hid (Below w.heap.size w W) := by rw [hW]; exact (Below.refl _ _).alloc (Nat.le_refl _) _
        have p0 := BX.cell 0
        have p1 := BX.cell 1
        have p2 := BX.cell 2
        simp at p0 p1 p2
        have HW := Lib.hid hW
        have HNW := Lib.hid hw
        have e1 : ((nw : Int) == (n : Int) * 2 ^ k) = false ∨ (nw : Int) = (n : Int) * 2 ^ k := .inr (by rw [hw]; exact hpc)
        have s1 : IntKind.i64.wrap ((n : Int) * 2 ^ k) = nw := by rw [← hpc, ← hw]; exact IntWalk.i64_in _ (by omega)
        clear hs hn hW hw e1 hpc
        go_enter Try.func31, Try.ntmps31
        go_wp2
        rw [← HW.out]
        go_quiet ((first | (go_at_call 49; exact Calls.quiet_of_same ((isShift_any _ _).mono fun _ _ h => ⟨by rw [h.1, HS.out], h.2.symm⟩)) | (go_at_call 50; exact Calls.quiet_of_same ((isNum_any _ _).mono fun _ _ h => ⟨by rw [h.1, HN.out], h.2.symm⟩))))
        go_wp2
        clear s1
        obtain ⟨V, hV⟩ : ∃ V, V = W.drewN nq := ⟨_, rfl⟩
        have BV : Blk V w.heap.size 25 #[.int .i64 k, .slice A nw c, .slice A' n c'] := by rw [hV]; exact BX
        have HBV : Hid (Below w.heap.size w V) := by rw [hV]; exact HBW.out.trans ⟨rfl, rfl, rfl, Nat.le_refl _, fun _ _ => rfl⟩
        rw [← hV]
        clear hV p0 p1 p2 BX
        go_loopw [4, 30] (fun _ i wr => ∃ t : Nat, t ≤ n ∧ i = .int .i64 t ∧ (∀ f, f < t → frameB wd k n F f = true) ∧ Below V.heap.size V wr) (fun _ i _ => n - (intOf i).toNat)
        case atStart => exact ⟨0, by omega, rfl, fun f hf => by omega, Below.refl _ _⟩
        case round =>
          obtain ⟨t, ht, rfl, hfr, hb⟩ := hrel
          have BR := BV.next hb
          have p0 := BR.cell 0
          have p1 := BR.cell 1
          have p2 := BR.cell 2
          simp at p0 p1 p2
          have HF := Lib.hid hfr
          have HB := Lib.hid hb
          have HBR : Hid (Below w.heap.size w wr) := below_next HBV.out (Nat.le_refl _) hb
          have HAR : Hid (Arr wr wr.heap.size A nw c wd) := HA.out.next HBR.out
          have HTR : Hid (Tab wr wr.heap.size A' n c' F) := HT.out.next HBR.out
          clear hfr hb
          by_cases hlt : t < n
          · have hlt2 : (t : Int) < n := by omega
            go_wp2_with fail
            refine (isFree_any k A A' nw c n c' wd F t _ HAR.out HTR.out s1' k8 n64 hlt HNW.out).mono ?_
            rintro e w1 ⟨rfl, hb1⟩
            have BR1 := BR.next hb1
            have p01 := BR1.cell 0
            have p11 := BR1.cell 1
            have p21 := BR1.cell 2
            simp at p01 p11 p21
            have HT1 : Hid (Tab w1 w1.heap.size A' n c' F) := HTR.out.next hb1
            have HB1 : Hid (Below V.heap.size V w1) := below_next HB.out (Nat.le_refl _) hb1
            clear p0 p1 p2 BR hb1
            rcases hfree : (frB (F t) frFree && zeroB wd k t) with _ | _
            · rcases hown : ownB n F t with _ | _
              · have HO := Lib.hid hown
                have hv : validB k nw wd n F = false := validB_no fun h => by
                  have h1 := h.2.2.2.1 t hlt
                  rw [Int.toNat_natCast] at h1
                  simp only [frameB, hfree, hown, Bool.or_self] at h1
                  cases h1
                have HV := Lib.hid hv
                clear hfree hown hv
                go_wp2_with (go_at_call 52; refine (isOwned_any A' n c' F t _ HT1.out hlt (by omega)).mono ?_; rintro e w2 ⟨rfl, hb2⟩; rw [HO.out]; have HB2 := Lib.hid (below_next HB1.out (Nat.le_refl _) hb2); clear hb2)
                go_ret
                exact ⟨ret_bool HV.out.symm, below_next HBV.out (Nat.le_refl _) HB2.out⟩
              · have HO := Lib.hid hown
                have hv : frameB wd k n F t = true := by simp [frameB, hown]
                have HV := Lib.hid hv
                clear hfree hown hv
                go_wp2_with (go_at_call 52; refine (isOwned_any A' n c' F t _ HT1.out hlt (by omega)).mono ?_; rintro e w2 ⟨rfl, hb2⟩; rw [HO.out]; have HB2 := Lib.hid (below_next HB1.out (Nat.le_refl _) hb2); clear hb2)
                refine ⟨⟨t + 1, by omega, by go_num, fun f hf => ?_, HB2.out⟩, by simp [intOf]; omega⟩
                rcases (show f < t ∨ f = t by omega) with h | rfl
                · exact HF.out f h
                · exact HV.out
            · have hv : frameB wd k n F t = true := by simp only [frameB, hfree, Bool.true_or]
              have HV := Lib.hid hv
              clear hfree hv
              go_wp2
              refine ⟨⟨t + 1, by omega, by go_num, fun f hf => ?_, HB1.out⟩, by simp [intOf]; omega⟩
              rcases (show f < t ∨ f = t by omega) with h | rfl
              · exact HF.out f h
              · exact HV.out
          · obtain rfl : n = t := by omega
            have hlt2 : ¬ (n : Int) < n := by omega
            have hv : linkB F n = validB k nw wd n F := by
              have hfr : ∀ f, f < n → frameB wd (k : Int).toNat n F f = true := by rw [Int.toNat_natCast]; exact HF.out
              rcases hl : linkB F n with _ | _
              · exact (validB_no fun h => linkB_not hl h.2.2.2.2).symm
              · exact (validB_yes ⟨HS.out, HN.out, by rw [Int.toNat_natCast]; exact HNW.out, hfr, linkB_of hl⟩).symm
            have HV := Lib.hid hv
            clear hv
            go_wp2_with fail
            refine (links_any A' n c' F _ HTR.out n64 (inside_of HF.out)).mono ?_
            rintro e w1 ⟨rfl, hb1⟩
            rw [HV.out]
            have HB1 := Lib.hid (below_next HBR.out (Nat.le_refl _) hb1)
            clear hb1
            go_wp2
            go_ret
            exact ⟨rfl, HB1.out⟩
      · have hv : validB k nw wd n F = false := validB_no fun h => hw (by have h1 := h.2.2.1; rw [Int.toNat_natCast] at h1; exact h1)
        have hb : ((nw : Int) == (n : Int) * 2 ^ k) = false := by rw [← hpc]; simp; omega
        have s1 : IntKind.i64.wrap ((n : Int) * 2 ^ k) = (n : Int) * 2 ^ k := by rw [← hpc]; exact IntWalk.i64_in _ (by omega)
        rw [hv]
        clear hs hn hw hpc hv
        go_enter Try.func31, Try.ntmps31
        go_wp2
        go_quiet ((first | (go_at_call 49; exact Calls.quiet_of_same ((isShift_any _ _).mono fun _ _ h => ⟨by rw [h.1, HS.out], h.2.symm⟩)) | (go_at_call 50; exact Calls.quiet_of_same ((isNum_any _ _).mono fun _ _ h => ⟨by rw [h.1, HN.out], h.2.symm⟩))))
        go_wp2
        go_ret
        exact ⟨rfl, ((Below.refl _ _).alloc (Nat.le_refl _) _).trans ⟨rfl, rfl, rfl, Nat.le_refl _, fun _ _ => rfl⟩⟩
end Go.Proofs.Ytpbcpobbjoopnaa
