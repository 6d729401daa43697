/-
  Valid of package belt: isQueueOf, haveAllFrames.
-/
import Derived.Test.YtkknmphigpcjjaaQfnd
import Derived.BigQuiet
import Derived.Deep.QuietTactic
namespace Go.Proofs.Ytkknmphigpcjjaa
open Go.RowKit
set_option maxRecDepth 100000
set_option linter.unusedVariables false

def IffOf (P : Prop) (w : World) (e : Ending) (w' : World) : Prop := ∃ b, e = .returned (.bool b) ∧ (b = true ↔ P) ∧ Below w.heap.size w w'
theorem iff_no {P : Prop} (h : ¬ P) : (false = true) ↔ P := ⟨fun e => absurd e (by decide), fun e => absurd e h⟩
theorem iff_yes {P : Prop} (h : P) : (true = true) ↔ P := ⟨fun _ => h, fun _ => rfl⟩

set_option maxHeartbeats 4000000 in
theorem isQueue_any (s : Int) (A A' : Option Addr) (nw c n c' : Nat) (wd : Nat → Int) (F : Nat → Fr) (Al : Option Addr) (cl : Nat) (q : List IncR) (be : Nat) (w : World) (hA : Arr w w.heap.size A nw c wd) (hT : Tab w w.heap.size A' n c' F)
    (hL : LArr w (Lt w.heap.size) Al cl q) (hv : validB s nw wd n F = true) :
    Calls Try.prog 36 #[.agg #[.int .i64 s, .slice A nw c, .slice A' n c'], .int .i64 be, .slice Al q.length cl] w (IffOf (QueP s.toNat n nw F be q) w) := by
  obtain ⟨U, hU⟩ : ∃ U, U = w.alloc (.cells #[.int .i64 s, .slice A nw c, .slice A' n c'] 25) := ⟨_, rfl⟩
  have BS := Lib.hid (show Blk U w.heap.size 25 #[.int .i64 s, .slice A nw c, .slice A' n c'] by rw [hU]; exact Blk.new _ _ _)
  have HBU : Hid (Below w.heap.size w U) := by rw [hU]; exact (Below.refl _ _).alloc (Nat.le_refl _) _
  have HU := Lib.hid hU
  have HA := Lib.hid (hA.next HBU.out)
  have HT := Lib.hid (hT.next HBU.out)
  have HL := Lib.hid (hL.next HBU.out)
  have hm := hL.2.1
  have hm' := hL.1
  simp only [maxLen] at hm
  have HV := Lib.hid hv
  clear hA hT hL hU hv
  go_enter Try.func36, Try.ntmps36
  go_wp2_with fail
  rw [← HU.out]
  go_loopw [11] (fun i wr => ∃ t : Nat, t ≤ q.length ∧ i = .int .i64 t ∧ (∀ (j : Nat) (i : IncR), j < t → q[j]? = some i → OkB s.toNat n nw F be q j i) ∧ Below U.heap.size U wr) (fun i _ => q.length - (intOf i).toNat)
  case atStart => exact ⟨0, by omega, rfl, fun j i hj => by omega, Below.refl _ _⟩
  case round =>
    obtain ⟨t, ht, rfl, hok, hb⟩ := hrel
    have HOK := Lib.hid hok
    have HB := Lib.hid hb
    clear hok hb
    have HBW : Hid (Below w.heap.size w wr) := below_next HBU.out (Nat.le_refl _) HB.out
    by_cases hlt : t < q.length
    · have hlt2 : 0 ≤ (t : Int) ∧ (t : Int) < q.length := by omega
      obtain ⟨i, hi⟩ := nth_of hlt
      obtain ⟨b, o, rfl, hP, hbz, d0, d1, d2, d3, d4⟩ := (HL.out.next HB.out).at_ hi
      have HI := Lib.hid hi
      obtain ⟨x0, hx0⟩ : ∃ x, x = i.sq := ⟨_, rfl⟩
      obtain ⟨x1, hx1⟩ : ∃ x, x = i.bt := ⟨_, rfl⟩
      obtain ⟨x2, hx2⟩ : ∃ x, x = i.fi := ⟨_, rfl⟩
      obtain ⟨x3, hx3⟩ : ∃ x, x = i.la := ⟨_, rfl⟩
      obtain ⟨x4, hx4⟩ : ∃ x, x = i.wo := ⟨_, rfl⟩
      rw [← hx0] at d0
      rw [← hx1] at d1
      rw [← hx2] at d2
      rw [← hx3] at d3
      rw [← hx4] at d4
      have HNO := Lib.hid (show ¬ OkB s.toNat n nw F be q t i → ¬ QueP s.toNat n nw F be q from fun h1 h2 => h1 (h2 t i hi))
      have HFI := Lib.hid (show FitI s.toNat n nw F i ↔ FitsQ s.toNat n nw F x0 x1 x2 x3 x4 by unfold FitI; rw [hx0, hx1, hx2, hx3, hx4])
      have HX0 := Lib.hid hx0
      have HX1 := Lib.hid hx1
      have HX4 := Lib.hid hx4
      have BSR := BS.out.next HB.out
      have p0 := BSR.cell 0
      have p1 := BSR.cell 1
      have p2 := BSR.cell 2
      simp at p0 p1 p2
      have zs : w.heap.size < wr.heap.size := BSR.lt
      have HBN : Hid (Below w.heap.size w (wr.alloc (.cells #[.int .i64 x0, .int .i64 x1, .int .i64 x2, .int .i64 x3, .int .i64 x4] 41))) := HBW.out.alloc HBW.out.size _
      clear hi hP hx0 hx1 hx2 hx3 hx4
      by_cases hbt : x1 = be
      · subst hbt
        by_cases hw0 : x4 = 0
        · subst hw0
          go_wp2
          go_ret
          exact ⟨_, rfl, iff_no (HNO.out fun h => by have h2 := h.2.1; rw [← HX4.out] at h2; omega), HBN.out⟩
        · have hwb : (x4 == 0) = false := by simpa using hw0
          obtain ⟨V, hV⟩ : ∃ V, V = wr.alloc (.cells #[.int .i64 x0, .int .i64 (be : Int), .int .i64 x2, .int .i64 x3, .int .i64 x4] 41) := ⟨_, rfl⟩
          have hbV : Below wr.heap.size wr V := by rw [hV]; exact (Below.refl _ _).alloc (Nat.le_refl _) _
          have BIV := Lib.hid (show Blk V wr.heap.size 41 #[.int .i64 x0, .int .i64 (be : Int), .int .i64 x2, .int .i64 x3, .int .i64 x4] by rw [hV]; exact Blk.new _ _ _)
          have HVV := Lib.hid hV
          have HBV : Hid (Below U.heap.size U V) := below_next HB.out (Nat.le_refl _) hbV
          have HAV := Lib.hid (HA.out.next HBV.out)
          have HTV := Lib.hid (HT.out.next HBV.out)
          have HW0 := Lib.hid hw0
          clear hV hbV hw0 BSR HBN
          go_wp2_with fail
          rw [← HVV.out]
          refine (inc9_any s A A' nw c n c' wd F x0 be x2 x3 x4 V HAV.out HTV.out).mono ?_
          rintro e V1 ⟨rfl, hb1⟩
          have HB1 : Hid (Below U.heap.size U V1) := below_next HBV.out (Nat.le_refl _) hb1
          have BI1 := BIV.out.next hb1
          clear p0 p1 p2 d0 d1 d2 d3 d4 hb1
          have p0 := BI1.cell 0
          simp at p0
          have zi : wr.heap.size < V1.heap.size := BI1.lt
          cases hic : incB s nw wd n F x0 be x2 x3 x4 with
          | false =>
            have HIC := Lib.hid hic
            clear hic BI1
            go_wp2
            go_ret
            refine ⟨_, rfl, iff_no (HNO.out fun h => ?_), below_next HBU.out (Nat.le_refl _) HB1.out⟩
            have h2 := incB_mk (validB_of HV.out) (HFI.out.1 h.2.2.1)
            rw [HIC.out] at h2
            cases h2
          | true =>
            have HFT := Lib.hid (HFI.out.2 (incB_yes hic).2)
            have HWP : Hid (0 < i.wo) := by
              have h1 := (incB_yes hic).2.1
              obtain ⟨_, _, _, _, W, h2, _⟩ := h1
              have h3 := HW0.out
              have h4 := HX4.out
              exact Lib.hid (by omega)
            clear hic BI1
            rcases t with _ | u
            · have hg : decide (0 < ((0 : Nat) : Int)) = false := by decide
              go_wp2_with fail
              go_quiet (fail)
              go_wp2
              exact ⟨⟨1, by omega, by go_num, fun j y hj hy => by
                obtain rfl : j = 0 := by omega
                rw [HI.out] at hy
                injection hy with hy
                subst hy
                exact ⟨HX1.out.symm, HWP.out, HFT.out, fun _ h => by omega⟩, below_drewN HB1.out _⟩, by simp [intOf]; omega⟩
            · obtain ⟨j, hj⟩ := nth_of (show u < q.length by omega)
              obtain ⟨b', o', e, hP', hbz', e0, _⟩ := (HL.out.next HB1.out).at_ hj
              injection e with e
              injection e with e1 e2
              subst e1 e2
              obtain ⟨y0, hy0⟩ : ∃ x, x = j.sq := ⟨_, rfl⟩
              rw [← hy0] at e0
              have HY0 := Lib.hid hy0
              have HJ := Lib.hid hj
              have hw : IntKind.i64.wrap ((u : Int) + 1 - 1) = (u : Int) := by rw [IntWalk.i64_in _ (by omega)]; omega
              have hg : (0 : Int) < (u : Int) + 1 := by omega
              have hu2 : 0 ≤ (u : Int) ∧ (u : Int) < q.length := by omega
              clear hy0 hj hP'
              go_wp2_with fail
              have BI1' := Lib.hid p0
              by_cases hge : x0 ≤ y0
              · have HGE := Lib.hid hge
                go_quiet (fail)
                go_wp2
                go_ret
                refine ⟨_, rfl, iff_no (HNO.out fun h => ?_), below_next HBU.out (Nat.le_refl _) (below_drewN HB1.out _)⟩
                have h2 := h.2.2.2 j (by omega) (by simpa using HJ.out)
                rw [← HY0.out, ← HX0.out] at h2
                have := HGE.out
                omega
              · have HGE := Lib.hid hge
                go_quiet (fail)
                go_wp2
                exact ⟨⟨u + 2, by omega, by go_num, fun j' y hj' hy => by
                  rcases (by omega : j' < u + 1 ∨ j' = u + 1) with h | h
                  · exact HOK.out j' y h hy
                  · subst h
                    rw [HI.out] at hy
                    injection hy with hy
                    subst hy
                    refine ⟨HX1.out.symm, HWP.out, HFT.out, fun j2 _ h2 => ?_⟩
                    rw [show u + 1 - 1 = u by omega, HJ.out] at h2
                    injection h2 with h2
                    subst h2
                    rw [← HY0.out, ← HX0.out]
                    have := HGE.out
                    omega, below_drewN HB1.out _⟩, by simp [intOf]; omega⟩
      · have hbb : (x1 != (be : Int)) = true := by simpa using hbt
        have HBT := Lib.hid hbt
        clear hbt
        go_wp2
        go_ret
        exact ⟨_, rfl, iff_no (HNO.out fun h => HBT.out (by rw [HX1.out]; exact h.1)), HBN.out⟩
    · have hlt2 : ¬ (t : Int) < q.length := by omega
      have HE := Lib.hid (show QueP s.toNat n nw F be q from fun j i hj => HOK.out j i (by have := get_lt hj; omega) hj)
      go_wp2
      go_ret
      exact ⟨_, rfl, iff_yes HE.out, HBW.out⟩

set_option maxHeartbeats 2000000 in
theorem haveAll_any (s : Int) (V1 : Value) (A' : Option Addr) (n c' : Nat) (F : Nat → Fr) (Al : Option Addr) (cl : Nat) (Q : List (List IncR)) (w : World) (hT : Tab w w.heap.size A' n c' F) (hQ : QArr w (Lt w.heap.size) Al cl Q) (hn : n ≤ 4096) :
    Calls Try.prog 37 #[.agg #[.int .i64 s, V1, .slice A' n c'], .slice Al Q.length cl] w (IffOf (∀ f, f < n → (F f).ow = -1 ∨ HasQ Q (F f).ow) w) := by
  obtain ⟨U, hU⟩ : ∃ U, U = w.alloc (.cells #[.int .i64 s, V1, .slice A' n c'] 25) := ⟨_, rfl⟩
  have BS := Lib.hid (show Blk U w.heap.size 25 #[.int .i64 s, V1, .slice A' n c'] by rw [hU]; exact Blk.new _ _ _)
  have HBU : Hid (Below w.heap.size w U) := by rw [hU]; exact (Below.refl _ _).alloc (Nat.le_refl _) _
  have HU := Lib.hid hU
  have HT := Lib.hid (hT.next HBU.out)
  have HQ := Lib.hid (hQ.next HBU.out)
  have p2 := BS.out.cell 2
  simp at p2
  clear hT hQ hU
  go_enter Try.func37, Try.ntmps37
  go_wp2_with fail
  rw [← HU.out]
  go_wp2_with fail
  go_loopw [12] (fun i wr => ∃ t : Nat, t ≤ n ∧ i = .int .i64 t ∧ (∀ f, f < t → (F f).ow = -1 ∨ HasQ Q (F f).ow) ∧ Below U.heap.size U wr) (fun i _ => n - (intOf i).toNat)
  case atStart => exact ⟨0, by omega, rfl, fun f hf => by omega, Below.refl _ _⟩
  case round =>
    obtain ⟨t, ht, rfl, hok, hb⟩ := hrel
    have HOK := Lib.hid hok
    have HB := Lib.hid hb
    clear hok hb
    by_cases hlt : t < n
    · have hlt2 : 0 ≤ (t : Int) ∧ (t : Int) < n := by omega
      obtain ⟨b, o, rfl, hbb⟩ := HT.out.base_ (by omega)
      obtain ⟨_, c0, c1, c2⟩ := (HT.out.next HB.out).cells t hlt
      have bz : b < wr.heap.size := cell_lt c0
      obtain ⟨x, hx⟩ : ∃ x, x = (F t).ow := ⟨_, rfl⟩
      rw [← hx] at c0
      have HX := Lib.hid hx
      obtain ⟨V, hV⟩ : ∃ V, V = wr.alloc (.cells #[.int .i64 x, .int .i64 (F t).st, .int .i64 (F t).nx] 69) := ⟨_, rfl⟩
      have hbV : Below wr.heap.size wr V := by rw [hV]; exact (Below.refl _ _).alloc (Nat.le_refl _) _
      have HBV : Hid (Below U.heap.size U V) := below_next HB.out (Nat.le_refl _) hbV
      have HQV := Lib.hid (HQ.out.next HBV.out)
      have HVV := Lib.hid hV
      clear hx hV hbV hbb
      by_cases hx1 : x = -1
      · have HX1 := Lib.hid hx1
        subst hx1
        go_wp2
        rw [← HVV.out]
        exact ⟨⟨t + 1, by omega, by go_num, fun f hf => by
          rcases (by omega : f < t ∨ f = t) with h | h
          · exact HOK.out f h
          · subst h; exact .inl HX.out.symm, HBV.out⟩, by simp [intOf]; omega⟩
      · have hxb : (x == -1) = false := by simpa using hx1
        clear hx1
        go_wp2_with fail
        rw [← HVV.out]
        refine (find_any Al cl Q x V HQV.out).mono ?_
        rintro e V2 ⟨i, f, rfl, hf, hb2⟩
        have HF := Lib.hid hf
        have HB2 : Hid (Below U.heap.size U V2) := below_next HBV.out (Nat.le_refl _) hb2
        have HB3 : Hid (Below U.heap.size U (V2.alloc (.cells #[.int .i64 i.sq, .int .i64 i.bt, .int .i64 i.fi, .int .i64 i.la, .int .i64 i.wo] 41))) := HB2.out.alloc HB2.out.size _
        clear hf hb2 c0 c1 c2
        cases f with
        | false =>
          unfold IncR.v
          go_wp2
          go_ret
          exact ⟨_, rfl, iff_no (fun h => by
            rcases h t hlt with h | h
            · rw [← HX.out] at h; simp [h] at hxb
            · rw [← HX.out] at h
              have := HF.out.2 h
              cases this), below_next HBU.out (Nat.le_refl _) HB3.out⟩
        | true =>
          unfold IncR.v
          go_wp2
          exact ⟨⟨t + 1, by omega, by go_num, fun f hf => by
            rcases (by omega : f < t ∨ f = t) with h | h
            · exact HOK.out f h
            · subst h; exact .inr (by rw [← HX.out]; simpa using HF.out), HB3.out⟩, by simp [intOf]; omega⟩
    · have hlt2 : ¬ (t : Int) < n := by omega
      have HE := Lib.hid (show ∀ f, f < n → (F f).ow = -1 ∨ HasQ Q (F f).ow from fun f hf => HOK.out f (by omega))
      go_wp2
      go_ret
      exact ⟨_, rfl, iff_yes HE.out, below_next HBU.out (Nat.le_refl _) HB.out⟩

/-- Whether belts are valid in a space. -/
def ValQ (s : Int) (nw : Nat) (wd : Nat → Int) (n : Nat) (F : Nat → Fr) (Q : List (List IncR)) : Prop := validB s nw wd n F = true ∧ SndP s.toNat n nw F Q

set_option maxHeartbeats 2000000 in
theorem beltValid_any (s : Int) (A A' : Option Addr) (nw c n c' : Nat) (wd : Nat → Int) (F : Nat → Fr) (Al : Option Addr) (cl : Nat) (Q : List (List IncR)) (w : World) (hA : Arr w w.heap.size A nw c wd) (hT : Tab w w.heap.size A' n c' F)
    (hQ : QArr w (Lt w.heap.size) Al cl Q) :
    Calls Try.prog 16 #[.agg #[.int .i64 s, .slice A nw c, .slice A' n c'], .slice Al Q.length cl] w (IffOf (ValQ s nw wd n F Q) w) := by
  obtain ⟨U, hU⟩ : ∃ U, U = w.alloc (.cells #[.int .i64 s, .slice A nw c, .slice A' n c'] 25) := ⟨_, rfl⟩
  have BS := Lib.hid (show Blk U w.heap.size 25 #[.int .i64 s, .slice A nw c, .slice A' n c'] by rw [hU]; exact Blk.new _ _ _)
  have HBU : Hid (Below w.heap.size w U) := by rw [hU]; exact (Below.refl _ _).alloc (Nat.le_refl _) _
  have HU := Lib.hid hU
  have HA := Lib.hid (hA.next HBU.out)
  have HT := Lib.hid (hT.next HBU.out)
  have HQ := Lib.hid (hQ.next HBU.out)
  have hm := hQ.2.1
  have hm' := hQ.1
  simp only [maxLen] at hm
  have p0 := BS.out.cell 0
  have p1 := BS.out.cell 1
  have p2 := BS.out.cell 2
  simp at p0 p1 p2
  clear hA hT hQ hU
  go_enter Try.func16, Try.ntmps16
  go_wp2_with fail
  rw [← HU.out]
  refine (valid_any s A A' nw c n c' wd F U HA.out HT.out).mono ?_
  rintro e U1 ⟨rfl, hb1⟩
  have BS1 := Lib.hid (BS.out.next hb1)
  have HB1 : Hid (Below w.heap.size w U1) := below_next HBU.out (Nat.le_refl _) hb1
  have HA1 := Lib.hid (HA.out.next hb1)
  have HT1 := Lib.hid (HT.out.next hb1)
  have HQ1 := Lib.hid (HQ.out.next hb1)
  clear p0 p1 p2 hb1 HA HT HQ
  cases hv : validB s nw wd n F with
  | false =>
    have HV := Lib.hid hv
    clear hv
    go_wp2
    go_ret
    exact ⟨_, rfl, iff_no (fun h => by have := h.1; rw [HV.out] at this; cases this), HB1.out⟩
  | true =>
    have HV := Lib.hid hv
    clear hv
    by_cases h1 : Q.length < 1
    · have h1i : (Q.length : Int) < 1 := by omega
      have HN := Lib.hid (show ¬ ValQ s nw wd n F Q from fun h => by have := h.2.1.1; omega)
      go_wp2
      go_ret
      exact ⟨_, rfl, iff_no HN.out, HB1.out⟩
    · have h1i : ¬ (Q.length : Int) < 1 := by omega
      by_cases h4 : 4 < Q.length
      · have h4i : (4 : Int) < Q.length := by omega
        have HN := Lib.hid (show ¬ ValQ s nw wd n F Q from fun h => by have := h.2.1.2.1; omega)
        go_wp2
        go_ret
        exact ⟨_, rfl, iff_no HN.out, HB1.out⟩
      · have h4i : ¬ (4 : Int) < Q.length := by omega
        go_wp2_with fail
        go_loopw [22] (fun i wr => ∃ t : Nat, t ≤ Q.length ∧ i = .int .i64 t ∧ (∀ b q, b < t → Q[b]? = some q → QueP s.toNat n nw F b q) ∧ Below U1.heap.size U1 wr) (fun i _ => Q.length - (intOf i).toNat)
        case atStart => exact ⟨0, by omega, rfl, fun b q hb => by omega, Below.refl _ _⟩
        case round =>
          obtain ⟨t, ht, rfl, hok, hb⟩ := hrel
          have HOK := Lib.hid hok
          have HB := Lib.hid hb
          clear hok hb
          have HAR := Lib.hid (HA1.out.next HB.out)
          have HTR := Lib.hid (HT1.out.next HB.out)
          have HQR := Lib.hid (HQ1.out.next HB.out)
          have BSR := BS1.out.next HB.out
          have p0 := BSR.cell 0
          have p1 := BSR.cell 1
          have p2 := BSR.cell 2
          simp at p0 p1 p2
          by_cases hlt : t < Q.length
          · have hlt2 : 0 ≤ (t : Int) ∧ (t : Int) < Q.length := by omega
            obtain ⟨q, hq⟩ := nth_of hlt
            obtain ⟨b, o, Ai, ci, rfl, hP, hbz, c0, hL⟩ := HQR.out.at_ hq
            have HQE := Lib.hid hq
            have HL := Lib.hid hL
            clear hq hP hL BSR
            go_wp2_with fail
            refine (isQueue_any s A A' nw c n c' wd F Ai ci q t wr HAR.out HTR.out HL.out HV.out).mono ?_
            rintro e W2 ⟨r, rfl, hr, hb2⟩
            have HR := Lib.hid hr
            have HB2 : Hid (Below U1.heap.size U1 W2) := below_next HB.out (Nat.le_refl _) hb2
            clear hr hb2 p0 p1 p2 c0
            cases r with
            | false =>
              go_wp2
              go_ret
              exact ⟨_, rfl, iff_no (fun h => by
                have := HR.out.2 (h.2.1.2.2 t q HQE.out)
                cases this), below_next HB1.out (Nat.le_refl _) HB2.out⟩
            | true =>
              go_wp2
              exact ⟨⟨t + 1, by omega, by go_num, fun b' q' hb' hq' => by
                rcases (by omega : b' < t ∨ b' = t) with h | h
                · exact HOK.out b' q' h hq'
                · subst h
                  rw [HQE.out] at hq'
                  injection hq' with hq'
                  subst hq'
                  simpa using HR.out, HB2.out⟩, by simp [intOf]; omega⟩
          · have hlt2 : ¬ (t : Int) < Q.length := by omega
            have hn64 := (nfB_yes (validB_of HV.out).2.1).2
            have HBEL := Lib.hid (show BelP s.toNat n nw F Q from ⟨by omega, by omega, fun b q hq => HOK.out b q (by have := get_lt hq; omega) hq⟩)
            clear BSR
            go_wp2_with fail
            refine (haveAll_any s (.slice A nw c) A' n c' F Al cl Q wr HTR.out HQR.out (by omega)).mono ?_
            rintro e W2 ⟨r, rfl, hr, hb2⟩
            have HR := Lib.hid hr
            have HB2 : Hid (Below U1.heap.size U1 W2) := below_next HB.out (Nat.le_refl _) hb2
            clear hr hb2 p0 p1 p2
            go_wp2
            go_ret
            exact ⟨_, rfl, HR.out.trans ⟨fun h => ⟨HV.out, HBEL.out, h⟩, fun h => h.2.2⟩, below_next HB1.out (Nat.le_refl _) HB2.out⟩
end Go.Proofs.Ytkknmphigpcjjaa
