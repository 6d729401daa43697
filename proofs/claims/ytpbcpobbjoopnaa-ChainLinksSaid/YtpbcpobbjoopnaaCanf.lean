/-
  Contracts of package chain: canFollow, Link.
-/
import Derived.Test.YtpbcpobbjoopnaaAw5
import Derived.Test.YtpbcpobbjoopnaaTake
import Derived.Deep.RegionHeld3
import Derived.Deep.DeepCutAuto
namespace Go.Proofs.Ytpbcpobbjoopnaa
open Go.RowKit
set_option maxRecDepth 100000
set_option linter.unusedVariables false

section
variable {F : Nat → Fr} {n l f : Nat}
theorem lnkB_of1 (h : (F l).ow = -1) : lnkB F n l f = true := by simp [lnkB, h]
theorem lnkB_of2 (h : (F l).st ≠ (F f).st) : lnkB F n l f = true := by simp [lnkB, h]
theorem lnkB_of3 (h : (F l).nx ≠ -1) : lnkB F n l f = true := by simp [lnkB, h]
theorem lnkB_of4 (h : fol F n f = true) : lnkB F n l f = true := by simp [lnkB, h]
theorem lnkB_rest (h1 : (F l).ow ≠ -1) (h2 : (F l).st = (F f).st) (h3 : (F l).nx = -1) (h4 : fol F n f = false) : lnkB F n l f = decide (l ∈ chL F n f) := by
  simp [lnkB, h1, h2, h3, h4]
end

set_option maxHeartbeats 4000000 in
theorem canFollow_any (s : Int) (V1 : Value) (A' : Option Addr) (n c' l f : Nat) (F : Nat → Fr) (w : World) (hT : Tab w w.heap.size A' n c' F) (hn : n ≤ 64) (hv : FV F n) (hl : l < n) (hf : f < n) :
    Calls Try.prog 33 #[.agg #[.int .i64 s, V1, .slice A' n c'], .int .i64 l, .int .i64 f] w fun e w' => e = .returned (.bool (!lnkB F n l f)) ∧ Below w.heap.size w w' := by
  obtain ⟨b, o, rfl, hbb⟩ := hT.base_ (by omega)
  obtain ⟨U, hU⟩ : ∃ U, U = w.alloc (.cells #[.int .i64 s, V1, .slice (some ⟨b, o, none⟩) n c'] 25) := ⟨_, rfl⟩
  have BU : Blk U w.heap.size 25 #[.int .i64 s, V1, .slice (some ⟨b, o, none⟩) n c'] := by rw [hU]; exact Blk.new _ _ _
  have HBU : Hid (Below w.heap.size w U) := by rw [hU]; exact (Below.refl _ _).alloc (Nat.le_refl _) _
  have HU := Lib.hid hU
  have HT := Lib.hid (hT.next HBU.out)
  have HTD : Hid (Tab U.drew U.drew.heap.size (some ⟨b, o, none⟩) n c' F) := Lib.hid (hT.next HBU.out.drew)
  obtain ⟨hbu, c0, c1, c2⟩ := HT.out.cells l hl
  obtain ⟨_, d0, d1, d2⟩ := HT.out.cells f hf
  have HV := Lib.hid hv
  have p0 := BU.cell 0
  have p1 := BU.cell 1
  have p2 := BU.cell 2
  have pz : w.heap.size < U.heap.size := BU.lt
  simp at p0 p1 p2
  have hl2 : 0 ≤ (l : Int) ∧ (l : Int) < n := by omega
  have hf2 : 0 ≤ (f : Int) ∧ (f : Int) < n := by omega
  obtain ⟨sl, hsl⟩ : ∃ x, x = (F l).st := ⟨_, rfl⟩
  obtain ⟨sf, hsf⟩ : ∃ x, x = (F f).st := ⟨_, rfl⟩
  obtain ⟨xl, hxl⟩ : ∃ x, x = (F l).nx := ⟨_, rfl⟩
  rw [← hsl] at c1
  rw [← hsf] at d1
  rw [← hxl] at c2
  have HSL := Lib.hid hsl
  have HSF := Lib.hid hsf
  have HXL := Lib.hid hxl
  clear hT hU hv hsl hsf hxl
  by_cases h1 : (F l).ow = -1
  · have HD := Lib.hid (show decide ((F l).ow = -1) = true from decide_eq_true h1)
    rw [lnkB_of1 h1]
    clear h1
    go_enter Try.func33, Try.ntmps33
    go_wp2_with fail
    rw [← HU.out]
    · clear c0 c2 d0 d2
      refine wp_region_held_drew (S := (fun w' => w'.cell? ⟨w.heap.size, 0, none⟩ = some (.int .i64 s) ∧ w'.cell? ⟨w.heap.size, 1, none⟩ = some V1 ∧ w'.cell? ⟨w.heap.size, 2, none⟩ = some (.slice (some ⟨b, o, none⟩) n c'))) (by kernel_rfl) ?_ (fun hHeld => ?_)
      · exact ⟨p0, p1, p2⟩
      (refine wpAnyH_take (i := 0) (v := ?_) rfl (by kernel_rfl) (by kernel_rfl) (by kernel_rfl) (fun _ _ _ h => h) (Or.inl ⟨by rfl, ?_⟩) (by assumption) ?_; rotate_left 1; (focus (intro w' hSw; (try dsimp only at hSw); go_simp; (try with_reducible rfl); done)); try simp only [Act.put, List.setIfInBounds_toArray, List.set_cons_zero, List.set_cons_succ, List.getElem_toArray, List.getElem_cons_zero])
      (refine wpAnyH_take (i := 1) (v := ?_) rfl (by kernel_rfl) (by kernel_rfl) (by kernel_rfl) (fun _ _ _ h => h) (Or.inl ⟨by rfl, ?_⟩) (by assumption) ?_; rotate_left 1; (focus (intro w' hSw; (try dsimp only at hSw); go_simp; (try with_reducible rfl); done)); try simp only [Act.put, List.setIfInBounds_toArray, List.set_cons_zero, List.set_cons_succ, List.getElem_toArray, List.getElem_cons_zero, List.getElem_cons_succ])
      refine wpAnyH_ready (rs := [2]) (by kernel_rfl) (by simp) ?_
      refine AllReadyH.cons rfl (fun K hK => ?_) AllReadyH.nil
      go_simp
      go_at_call 36
      refine (isFree5_any s V1 (some ⟨b, o, none⟩) n c' l F _ HTD.out hl).mono ?_
      rintro e w1 ⟨rfl, hb1⟩
      rw [HD.out]
      go_wp2_with fail
      refine hK.out _ _ ⟨(hb1.cell (p := ⟨_, 0, none⟩) pz).trans p0, (hb1.cell (p := ⟨_, 1, none⟩) pz).trans p1, (hb1.cell (p := ⟨_, 2, none⟩) pz).trans p2⟩ (fun hHeld2 => ?_)
      clear hK K hHeld
      try simp only [Act.put, List.setIfInBounds_toArray, List.set_cons_zero, List.set_cons_succ, List.getElem_toArray, List.getElem_cons_zero, List.getElem_cons_succ]
      (refine wpAnyH_take (i := 3) (v := ?_) rfl (by kernel_rfl) (by kernel_rfl) (by kernel_rfl) (fun _ _ _ h => h) (Or.inl ⟨by rfl, ?_⟩) (by assumption) ?_; rotate_left 1; (focus (intro w' hSw; (try dsimp only at hSw); go_simp; (try with_reducible rfl); done)); try simp only [Act.put, List.setIfInBounds_toArray, List.set_cons_zero, List.set_cons_succ, List.getElem_toArray, List.getElem_cons_zero, List.getElem_cons_succ])
      (refine wpAnyH_take (i := 4) (v := undef) rfl (by kernel_rfl) (by kernel_rfl) (by kernel_rfl) (fun _ _ _ h => h) (Or.inr ⟨by rfl, rfl⟩) (by assumption) ?_; try simp only [Act.put, List.setIfInBounds_toArray, List.set_cons_zero, List.set_cons_succ, List.getElem_toArray, List.getElem_cons_zero, List.getElem_cons_succ])
      (refine wpAnyH_take (i := 5) (v := undef) rfl (by kernel_rfl) (by kernel_rfl) (by kernel_rfl) (fun _ _ _ h => h) (Or.inr ⟨by rfl, rfl⟩) (by assumption) ?_; try simp only [Act.put, List.setIfInBounds_toArray, List.set_cons_zero, List.set_cons_succ, List.getElem_toArray, List.getElem_cons_zero, List.getElem_cons_succ])
      (refine wpAnyH_take (i := 6) (v := undef) rfl (by kernel_rfl) (by kernel_rfl) (by kernel_rfl) (fun _ _ _ h => h) (Or.inr ⟨by rfl, rfl⟩) (by assumption) ?_; try simp only [Act.put, List.setIfInBounds_toArray, List.set_cons_zero, List.set_cons_succ, List.getElem_toArray, List.getElem_cons_zero, List.getElem_cons_succ])
      (refine wpAnyH_take (i := 7) (v := undef) rfl (by kernel_rfl) (by kernel_rfl) (by kernel_rfl) (fun _ _ _ h => h) (Or.inr ⟨by rfl, rfl⟩) (by assumption) ?_; try simp only [Act.put, List.setIfInBounds_toArray, List.set_cons_zero, List.set_cons_succ, List.getElem_toArray, List.getElem_cons_zero, List.getElem_cons_succ])
      (refine wpAnyH_take (i := 8) (v := undef) rfl (by kernel_rfl) (by kernel_rfl) (by kernel_rfl) (fun _ _ _ h => h) (Or.inr ⟨by rfl, rfl⟩) (by assumption) ?_; try simp only [Act.put, List.setIfInBounds_toArray, List.set_cons_zero, List.set_cons_succ, List.getElem_toArray, List.getElem_cons_zero, List.getElem_cons_succ])
      (refine wpAnyH_take (i := 9) (v := undef) rfl (by kernel_rfl) (by kernel_rfl) (by kernel_rfl) (fun _ _ _ h => h) (Or.inr ⟨by rfl, rfl⟩) (by assumption) ?_; try simp only [Act.put, List.setIfInBounds_toArray, List.set_cons_zero, List.set_cons_succ, List.getElem_toArray, List.getElem_cons_zero, List.getElem_cons_succ])
      (refine wpAnyH_take (i := 10) (v := undef) rfl (by kernel_rfl) (by kernel_rfl) (by kernel_rfl) (fun _ _ _ h => h) (Or.inr ⟨by rfl, rfl⟩) (by assumption) ?_; try simp only [Act.put, List.setIfInBounds_toArray, List.set_cons_zero, List.set_cons_succ, List.getElem_toArray, List.getElem_cons_zero, List.getElem_cons_succ])
      (refine wpAnyH_take (i := 11) (v := undef) rfl (by kernel_rfl) (by kernel_rfl) (by kernel_rfl) (fun _ _ _ h => h) (Or.inr ⟨by rfl, rfl⟩) (by assumption) ?_; try simp only [Act.put, List.setIfInBounds_toArray, List.set_cons_zero, List.set_cons_succ, List.getElem_toArray, List.getElem_cons_zero, List.getElem_cons_succ])
      (refine wpAnyH_take (i := 12) (v := undef) rfl (by kernel_rfl) (by kernel_rfl) (by kernel_rfl) (fun _ _ _ h => h) (Or.inr ⟨by rfl, rfl⟩) (by assumption) ?_; try simp only [Act.put, List.setIfInBounds_toArray, List.set_cons_zero, List.set_cons_succ, List.getElem_toArray, List.getElem_cons_zero, List.getElem_cons_succ])
      (refine wpAnyH_take (i := 13) (v := undef) rfl (by kernel_rfl) (by kernel_rfl) (by kernel_rfl) (fun _ _ _ h => h) (Or.inr ⟨by rfl, rfl⟩) (by assumption) ?_; try simp only [Act.put, List.setIfInBounds_toArray, List.set_cons_zero, List.set_cons_succ, List.getElem_toArray, List.getElem_cons_zero, List.getElem_cons_succ])
      (refine wpAnyH_take (i := 14) (v := undef) rfl (by kernel_rfl) (by kernel_rfl) (by kernel_rfl) (fun _ _ _ h => h) (Or.inr ⟨by rfl, rfl⟩) (by assumption) ?_; try simp only [Act.put, List.setIfInBounds_toArray, List.set_cons_zero, List.set_cons_succ, List.getElem_toArray, List.getElem_cons_zero, List.getElem_cons_succ])
      (refine wpAnyH_take (i := 15) (v := undef) rfl (by kernel_rfl) (by kernel_rfl) (by kernel_rfl) (fun _ _ _ h => h) (Or.inr ⟨by rfl, rfl⟩) (by assumption) ?_; try simp only [Act.put, List.setIfInBounds_toArray, List.set_cons_zero, List.set_cons_succ, List.getElem_toArray, List.getElem_cons_zero, List.getElem_cons_succ])
      (refine wpAnyH_take (i := 16) (v := undef) rfl (by kernel_rfl) (by kernel_rfl) (by kernel_rfl) (fun _ _ _ h => h) (Or.inr ⟨by rfl, rfl⟩) (by assumption) ?_; try simp only [Act.put, List.setIfInBounds_toArray, List.set_cons_zero, List.set_cons_succ, List.getElem_toArray, List.getElem_cons_zero, List.getElem_cons_succ])
      (refine wpAnyH_take (i := 17) (v := ?_) rfl (by kernel_rfl) (by kernel_rfl) (by kernel_rfl) (fun _ _ _ h => h) (Or.inl ⟨by rfl, ?_⟩) (by assumption) ?_; rotate_left 1; (focus (intro w' hSw; (try dsimp only at hSw); go_simp; (try with_reducible rfl); done)); try simp only [Act.put, List.setIfInBounds_toArray, List.set_cons_zero, List.set_cons_succ, List.getElem_toArray, List.getElem_cons_zero, List.getElem_cons_succ])
      refine wpAnyH_done (by kernel_rfl) ?_ _
      have HB1 := Lib.hid hb1
      clear hb1
      go_wp2
      go_ret
      exact ⟨rfl, below_next HBU.out.drew (Nat.le_refl _) HB1.out⟩
  · have HD := Lib.hid (show decide ((F l).ow = -1) = false from decide_eq_false h1)
    have H1 := Lib.hid h1
    clear h1
    by_cases h2 : sl = sf
    · have hq : (sl != sf) = false := by simpa using h2
      have H2 := Lib.hid (show (F l).st = (F f).st by rw [← HSL.out, ← HSF.out]; exact h2)
      clear h2
      by_cases h3 : xl = -1
      · have hq3 : (xl != -1) = false := by simpa using h3
        have H3 := Lib.hid (show (F l).nx = -1 by rw [← HXL.out]; exact h3)
        clear h3
        cases h4 : fol F n f with
        | true =>
          rw [lnkB_of4 h4]
          have H4 := Lib.hid h4
          clear h4
          go_enter Try.func33, Try.ntmps33
          go_wp2_with fail
          rw [← HU.out]
          go_region_held3 (fun w' => w'.cell? ⟨w.heap.size, 0, none⟩ = some (.int .i64 s) ∧ w'.cell? ⟨w.heap.size, 1, none⟩ = some V1 ∧ w'.cell? ⟨w.heap.size, 2, none⟩ = some (.slice (some ⟨b, o, none⟩) n c') ∧ w'.cell? ⟨b, o + l * 3 + 1, none⟩ = some (.int .i64 sl) ∧ w'.cell? ⟨b, o + f * 3 + 1, none⟩ = some (.int .i64 sf))
            (first | exact ⟨p0, p1, p2, c1, d1⟩ | exact ⟨(hb1.cell (p := ⟨_, _, none⟩) pz).trans p0, (hb1.cell (p := ⟨_, _, none⟩) pz).trans p1, (hb1.cell (p := ⟨_, _, none⟩) pz).trans p2, (hb1.cell (p := ⟨_, _, none⟩) hbu).trans c1, (hb1.cell (p := ⟨_, _, none⟩) hbu).trans d1⟩)
            (first | (go_at_call 36; refine (isFree5_any s V1 (some ⟨b, o, none⟩) n c' l F _ HTD.out hl).mono ?_; rintro e w1 ⟨rfl, hb1⟩; rw [HD.out]))
          have HB1 := Lib.hid (below_next HBU.out.drew (Nat.le_refl _) hb1)
          have HT1 := Lib.hid (HTD.out.next hb1)
          have r0 := (hb1.cell (p := ⟨_, 0, none⟩) pz).trans p0
          have r1 := (hb1.cell (p := ⟨_, 1, none⟩) pz).trans p1
          have r2 := (hb1.cell (p := ⟨_, 2, none⟩) pz).trans p2
          have rz : w.heap.size < w1.heap.size := Nat.lt_of_lt_of_le pz hb1.size
          have e2 := (hb1.cell (p := ⟨b, o + l * 3 + 2, none⟩) hbu).trans c2
          clear hb1 p0 p1 p2 c0 c1 c2 d0 d1 d2 hbu
          go_wp2_with (go_at_call 54; refine (follows_any s V1 (some ⟨b, o, none⟩) n c' F f _ HT1.out (by omega)).mono ?_; rintro e w2 ⟨rfl, hb2⟩; rw [H4.out])
          go_ret
          exact ⟨rfl, below_next HB1.out (Nat.le_refl _) hb2⟩
        | false =>
          rw [lnkB_rest H1.out H2.out H3.out h4]
          have H4 := Lib.hid h4
          obtain ⟨M, hM, hlen⟩ := HV.out.len hf
          have HCL := Lib.hid (show (chL F n f).length ≤ 4096 by rw [chL_length hlen hM]; omega)
          clear h4 hM hlen
          go_enter Try.func33, Try.ntmps33
          go_wp2_with fail
          rw [← HU.out]
          go_region_held3 (fun w' => w'.cell? ⟨w.heap.size, 0, none⟩ = some (.int .i64 s) ∧ w'.cell? ⟨w.heap.size, 1, none⟩ = some V1 ∧ w'.cell? ⟨w.heap.size, 2, none⟩ = some (.slice (some ⟨b, o, none⟩) n c') ∧ w'.cell? ⟨b, o + l * 3 + 1, none⟩ = some (.int .i64 sl) ∧ w'.cell? ⟨b, o + f * 3 + 1, none⟩ = some (.int .i64 sf))
            (first | exact ⟨p0, p1, p2, c1, d1⟩ | exact ⟨(hb1.cell (p := ⟨_, _, none⟩) pz).trans p0, (hb1.cell (p := ⟨_, _, none⟩) pz).trans p1, (hb1.cell (p := ⟨_, _, none⟩) pz).trans p2, (hb1.cell (p := ⟨_, _, none⟩) hbu).trans c1, (hb1.cell (p := ⟨_, _, none⟩) hbu).trans d1⟩)
            (first | (go_at_call 36; refine (isFree5_any s V1 (some ⟨b, o, none⟩) n c' l F _ HTD.out hl).mono ?_; rintro e w1 ⟨rfl, hb1⟩; rw [HD.out]))
          have HB1 := Lib.hid (below_next HBU.out.drew (Nat.le_refl _) hb1)
          have HT1 := Lib.hid (HTD.out.next hb1)
          have BU1 := Lib.hid (show Blk w1 w.heap.size 25 #[.int .i64 s, V1, .slice (some ⟨b, o, none⟩) n c'] from (show Blk U.drew w.heap.size 25 #[.int .i64 s, V1, .slice (some ⟨b, o, none⟩) n c'] from BU).next hb1)
          have r0 := (hb1.cell (p := ⟨_, 0, none⟩) pz).trans p0
          have r1 := (hb1.cell (p := ⟨_, 1, none⟩) pz).trans p1
          have r2 := (hb1.cell (p := ⟨_, 2, none⟩) pz).trans p2
          have rz : w.heap.size < w1.heap.size := Nat.lt_of_lt_of_le pz hb1.size
          have e2 := (hb1.cell (p := ⟨b, o + l * 3 + 2, none⟩) hbu).trans c2
          clear hb1 p0 p1 p2 c0 c1 c2 d0 d1 d2 hbu
          go_wp2_with (first
            | (go_at_call 54; refine (follows_any s V1 (some ⟨b, o, none⟩) n c' F f _ HT1.out (by omega)).mono ?_; rintro e w2 ⟨rfl, hb2⟩; rw [H4.out]; have X := BU1.out.next hb2; have x0 := X.cell 0; have x1 := X.cell 1; have x2 := X.cell 2; have xz := X.lt; simp at x0 x1 x2; have HB2 := Lib.hid (below_next HB1.out (Nat.le_refl _) hb2); have HT2 := Lib.hid (HT1.out.next hb2); clear hb2 X)
            | (go_at_call 37; refine (framesFrom_any s V1 (some ⟨b, o, none⟩) n c' f F _ HT2.out hn HV.out hf).mono ?_; rintro e w3 ⟨A3, c3, rfl, hn3, hb3⟩; have HN3 := Lib.hid hn3; have HB3 := Lib.hid (below_next HB2.out (Nat.le_refl _) hb3); clear hn3 hb3)
            | (go_at_call 55; refine (contains_any A3 c3 (chL F n f) l _ HN3.out HCL.out).mono ?_; rintro e w4 ⟨rfl, hb4⟩))
          go_ret
          exact ⟨rfl, below_next HB3.out (Nat.le_refl _) hb4⟩
      · have hq3 : (xl != -1) = true := by simpa using h3
        rw [lnkB_of3 (by rw [← HXL.out]; exact h3)]
        clear h3
        go_enter Try.func33, Try.ntmps33
        go_wp2_with fail
        rw [← HU.out]
        go_region_held3 (fun w' => w'.cell? ⟨w.heap.size, 0, none⟩ = some (.int .i64 s) ∧ w'.cell? ⟨w.heap.size, 1, none⟩ = some V1 ∧ w'.cell? ⟨w.heap.size, 2, none⟩ = some (.slice (some ⟨b, o, none⟩) n c') ∧ w'.cell? ⟨b, o + l * 3 + 1, none⟩ = some (.int .i64 sl) ∧ w'.cell? ⟨b, o + f * 3 + 1, none⟩ = some (.int .i64 sf))
          (first | exact ⟨p0, p1, p2, c1, d1⟩ | exact ⟨(hb1.cell (p := ⟨_, _, none⟩) pz).trans p0, (hb1.cell (p := ⟨_, _, none⟩) pz).trans p1, (hb1.cell (p := ⟨_, _, none⟩) pz).trans p2, (hb1.cell (p := ⟨_, _, none⟩) hbu).trans c1, (hb1.cell (p := ⟨_, _, none⟩) hbu).trans d1⟩)
          (first | (go_at_call 36; refine (isFree5_any s V1 (some ⟨b, o, none⟩) n c' l F _ HTD.out hl).mono ?_; rintro e w1 ⟨rfl, hb1⟩; rw [HD.out]))
        have HB1 := Lib.hid (below_next HBU.out.drew (Nat.le_refl _) hb1)
        have r0 := (hb1.cell (p := ⟨_, 0, none⟩) pz).trans p0
        have r1 := (hb1.cell (p := ⟨_, 1, none⟩) pz).trans p1
        have r2 := (hb1.cell (p := ⟨_, 2, none⟩) pz).trans p2
        have e2 := (hb1.cell (p := ⟨b, o + l * 3 + 2, none⟩) hbu).trans c2
        clear hb1 p0 p1 p2 c0 c1 c2 d0 d1 d2 hbu
        go_wp2
        go_ret
        exact ⟨rfl, HB1.out⟩
    · have hq : (sl != sf) = true := by simpa using h2
      rw [lnkB_of2 (by rw [← HSL.out, ← HSF.out]; exact h2)]
      clear h2
      go_enter Try.func33, Try.ntmps33
      go_wp2_with fail
      rw [← HU.out]
      go_region_held3 (fun w' => w'.cell? ⟨w.heap.size, 0, none⟩ = some (.int .i64 s) ∧ w'.cell? ⟨w.heap.size, 1, none⟩ = some V1 ∧ w'.cell? ⟨w.heap.size, 2, none⟩ = some (.slice (some ⟨b, o, none⟩) n c') ∧ w'.cell? ⟨b, o + l * 3 + 1, none⟩ = some (.int .i64 sl) ∧ w'.cell? ⟨b, o + f * 3 + 1, none⟩ = some (.int .i64 sf))
        (first | exact ⟨p0, p1, p2, c1, d1⟩ | exact ⟨(hb1.cell (p := ⟨_, _, none⟩) pz).trans p0, (hb1.cell (p := ⟨_, _, none⟩) pz).trans p1, (hb1.cell (p := ⟨_, _, none⟩) pz).trans p2, (hb1.cell (p := ⟨_, _, none⟩) hbu).trans c1, (hb1.cell (p := ⟨_, _, none⟩) hbu).trans d1⟩)
        (first | (go_at_call 36; refine (isFree5_any s V1 (some ⟨b, o, none⟩) n c' l F _ HTD.out hl).mono ?_; rintro e w1 ⟨rfl, hb1⟩; rw [HD.out]))
      have HB1 := Lib.hid (below_next HBU.out.drew (Nat.le_refl _) hb1)
      clear hb1 p0 p1 p2 c0 c1 c2 d0 d1 d2 hbu
      go_wp2
      go_ret
      exact ⟨rfl, HB1.out⟩
end Go.Proofs.Ytpbcpobbjoopnaa
