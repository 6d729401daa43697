/-
  Merged: Canf, Lnk, Rlnk.
-/
import Derived.Test.YthcfcciemjkilaaDoorMAw5
import Derived.Test.YthcfcciemjkilaaDoorMPool
import Derived.Deep.RegionHeld3
import Derived.Deep.DeepCutAuto
import Derived.RegionTactic
namespace Go.Proofs.YthcfcciemjkilaaDoor
open Go.RowKit
set_option maxRecDepth 100000
set_option linter.unusedVariables false

section
variable {F : Nat → Fr} {n l f : Nat}
theorem lnkB_of1 (h : (F l).ow = -1) : lnkB F n l f = true := by simp [lnkB, h]
theorem lnkB_of2 (h : (F l).st ≠ (F f).st) : lnkB F n l f = true := by simp [lnkB, h]
theorem lnkB_of3 (h : (F l).nx ≠ -1) : lnkB F n l f = true := by simp [lnkB, h]
theorem lnkB_of4 (h : fol F n f = true) : lnkB F n l f = true := by simp [lnkB, h]
theorem lnkB_rest (h1 : (F l).ow ≠ -1) (h2 : (F l).st = (F f).st) (h3 : (F l).nx = -1) (h4 : fol F n f = false) : lnkB F n l f = decide (l ∈ chL F n f) := by
  simp [lnkB, h1, h2, h3, h4]
end

set_option maxHeartbeats 4000000 in
theorem canFollow_any (s : Int) (V1 : Value) (A' : Option Addr) (n c' l f : Nat) (F : Nat → Fr) (w : World) (hT : Tab w w.heap.size A' n c' F) (hn : n ≤ 64) (hv : FV F n) (hl : l < n) (hf : f < n) :
    Calls Tryd.prog 50 #[.agg #[.int .i64 s, V1, .slice A' n c'], .int .i64 l, .int .i64 f] w fun e w' => e = .returned (.bool (!lnkB F n l f)) ∧ Below w.heap.size w w' := by
  obtain ⟨b, o, rfl, hbb⟩ := hT.base_ (by omega)
  obtain ⟨U, hU⟩ : ∃ U, U = w.alloc (.cells #[.int .i64 s, V1, .slice (some ⟨b, o, none⟩) n c'] 30) := ⟨_, rfl⟩
  have BU : Blk U w.heap.size 30 #[.int .i64 s, V1, .slice (some ⟨b, o, none⟩) n c'] := by rw [hU]; exact Blk.new _ _ _
  have HBU : Hid (Below w.heap.size w U) := by rw [hU]; exact (Below.refl _ _).alloc (Nat.le_refl _) _
  have HU := Lib.hid hU
  have HT := Lib.hid (hT.next HBU.out)
  have HTD : Hid (Tab U.drew U.drew.heap.size (some ⟨b, o, none⟩) n c' F) := Lib.hid (hT.next HBU.out.drew)
  obtain ⟨hbu, c0, c1, c2⟩ := HT.out.cells l hl
  obtain ⟨_, d0, d1, d2⟩ := HT.out.cells f hf
  have HV := Lib.hid hv
  have p0 := BU.cell 0
  have p1 := BU.cell 1
  have p2 := BU.cell 2
  have pz : w.heap.size < U.heap.size := BU.lt
  simp at p0 p1 p2
  have hl2 : 0 ≤ (l : Int) ∧ (l : Int) < n := by omega
  have hf2 : 0 ≤ (f : Int) ∧ (f : Int) < n := by omega
  obtain ⟨sl, hsl⟩ : ∃ x, x = (F l).st := ⟨_, rfl⟩
  obtain ⟨sf, hsf⟩ : ∃ x, x = (F f).st := ⟨_, rfl⟩
  obtain ⟨xl, hxl⟩ : ∃ x, x = (F l).nx := ⟨_, rfl⟩
  rw [← hsl] at c1
  rw [← hsf] at d1
  rw [← hxl] at c2
  have HSL := Lib.hid hsl
  have HSF := Lib.hid hsf
  have HXL := Lib.hid hxl
  clear hT hU hv hsl hsf hxl
  by_cases h1 : (F l).ow = -1
  · have HD := Lib.hid (show decide ((F l).ow = -1) = true from decide_eq_true h1)
    rw [lnkB_of1 h1]
    clear h1
    go_enter Tryd.func50, Tryd.ntmps50
    go_wp2_with fail
    rw [← HU.out]
    · clear c0 c2 d0 d2
      refine wp_region_held_drew (S := (fun w' => w'.cell? ⟨w.heap.size, 0, none⟩ = some (.int .i64 s) ∧ w'.cell? ⟨w.heap.size, 1, none⟩ = some V1 ∧ w'.cell? ⟨w.heap.size, 2, none⟩ = some (.slice (some ⟨b, o, none⟩) n c'))) (by kernel_rfl) ?_ (fun hHeld => ?_)
      · exact ⟨p0, p1, p2⟩
      (refine wpAnyH_take (i := 0) (v := ?_) rfl (by kernel_rfl) (by kernel_rfl) (by kernel_rfl) (fun _ _ _ h => h) (Or.inl ⟨by rfl, ?_⟩) (by assumption) ?_; rotate_left 1; (focus (intro w' hSw; (try dsimp only at hSw); go_simp; (try with_reducible rfl); done)); try simp only [Act.put, List.setIfInBounds_toArray, List.set_cons_zero, List.set_cons_succ, List.getElem_toArray, List.getElem_cons_zero])
      (refine wpAnyH_take (i := 1) (v := ?_) rfl (by kernel_rfl) (by kernel_rfl) (by kernel_rfl) (fun _ _ _ h => h) (Or.inl ⟨by rfl, ?_⟩) (by assumption) ?_; rotate_left 1; (focus (intro w' hSw; (try dsimp only at hSw); go_simp; (try with_reducible rfl); done)); try simp only [Act.put, List.setIfInBounds_toArray, List.set_cons_zero, List.set_cons_succ, List.getElem_toArray, List.getElem_cons_zero, List.getElem_cons_succ])
      refine wpAnyH_ready (rs := [2]) (by kernel_rfl) (by simp) ?_
      refine AllReadyH.cons rfl (fun K hK => ?_) AllReadyH.nil
      go_simp
      go_at_call 34
      refine (isFree5_any s V1 (some ⟨b, o, none⟩) n c' l F _ HTD.out hl).mono ?_
      rintro e w1 ⟨rfl, hb1⟩
      rw [HD.out]
      go_wp2_with fail
      refine hK.out _ _ ⟨(hb1.cell (p := ⟨_, 0, none⟩) pz).trans p0, (hb1.cell (p := ⟨_, 1, none⟩) pz).trans p1, (hb1.cell (p := ⟨_, 2, none⟩) pz).trans p2⟩ (fun hHeld2 => ?_)
      clear hK K hHeld
      try simp only [Act.put, List.setIfInBounds_toArray, List.set_cons_zero, List.set_cons_succ, List.getElem_toArray, List.getElem_cons_zero, List.getElem_cons_succ]
      (refine wpAnyH_take (i := 3) (v := ?_) rfl (by kernel_rfl) (by kernel_rfl) (by kernel_rfl) (fun _ _ _ h => h) (Or.inl ⟨by rfl, ?_⟩) (by assumption) ?_; rotate_left 1; (focus (intro w' hSw; (try dsimp only at hSw); go_simp; (try with_reducible rfl); done)); try simp only [Act.put, List.setIfInBounds_toArray, List.set_cons_zero, List.set_cons_succ, List.getElem_toArray, List.getElem_cons_zero, List.getElem_cons_succ])
      (refine wpAnyH_take (i := 4) (v := undef) rfl (by kernel_rfl) (by kernel_rfl) (by kernel_rfl) (fun _ _ _ h => h) (Or.inr ⟨by rfl, rfl⟩) (by assumption) ?_; try simp only [Act.put, List.setIfInBounds_toArray, List.set_cons_zero, List.set_cons_succ, List.getElem_toArray, List.getElem_cons_zero, List.getElem_cons_succ])
      (refine wpAnyH_take (i := 5) (v := undef) rfl (by kernel_rfl) (by kernel_rfl) (by kernel_rfl) (fun _ _ _ h => h) (Or.inr ⟨by rfl, rfl⟩) (by assumption) ?_; try simp only [Act.put, List.setIfInBounds_toArray, List.set_cons_zero, List.set_cons_succ, List.getElem_toArray, List.getElem_cons_zero, List.getElem_cons_succ])
      (refine wpAnyH_take (i := 6) (v := undef) rfl (by kernel_rfl) (by kernel_rfl) (by kernel_rfl) (fun _ _ _ h => h) (Or.inr ⟨by rfl, rfl⟩) (by assumption) ?_; try simp only [Act.put, List.setIfInBounds_toArray, List.set_cons_zero, List.set_cons_succ, List.getElem_toArray, List.getElem_cons_zero, List.getElem_cons_succ])
      (refine wpAnyH_take (i := 7) (v := undef) rfl (by kernel_rfl) (by kernel_rfl) (by kernel_rfl) (fun _ _ _ h => h) (Or.inr ⟨by rfl, rfl⟩) (by assumption) ?_; try simp only [Act.put, List.setIfInBounds_toArray, List.set_cons_zero, List.set_cons_succ, List.getElem_toArray, List.getElem_cons_zero, List.getElem_cons_succ])
      (refine wpAnyH_take (i := 8) (v := undef) rfl (by kernel_rfl) (by kernel_rfl) (by kernel_rfl) (fun _ _ _ h => h) (Or.inr ⟨by rfl, rfl⟩) (by assumption) ?_; try simp only [Act.put, List.setIfInBounds_toArray, List.set_cons_zero, List.set_cons_succ, List.getElem_toArray, List.getElem_cons_zero, List.getElem_cons_succ])
      (refine wpAnyH_take (i := 9) (v := undef) rfl (by kernel_rfl) (by kernel_rfl) (by kernel_rfl) (fun _ _ _ h => h) (Or.inr ⟨by rfl, rfl⟩) (by assumption) ?_; try simp only [Act.put, List.setIfInBounds_toArray, List.set_cons_zero, List.set_cons_succ, List.getElem_toArray, List.getElem_cons_zero, List.getElem_cons_succ])
      (refine wpAnyH_take (i := 10) (v := undef) rfl (by kernel_rfl) (by kernel_rfl) (by kernel_rfl) (fun _ _ _ h => h) (Or.inr ⟨by rfl, rfl⟩) (by assumption) ?_; try simp only [Act.put, List.setIfInBounds_toArray, List.set_cons_zero, List.set_cons_succ, List.getElem_toArray, List.getElem_cons_zero, List.getElem_cons_succ])
      (refine wpAnyH_take (i := 11) (v := undef) rfl (by kernel_rfl) (by kernel_rfl) (by kernel_rfl) (fun _ _ _ h => h) (Or.inr ⟨by rfl, rfl⟩) (by assumption) ?_; try simp only [Act.put, List.setIfInBounds_toArray, List.set_cons_zero, List.set_cons_succ, List.getElem_toArray, List.getElem_cons_zero, List.getElem_cons_succ])
      (refine wpAnyH_take (i := 12) (v := undef) rfl (by kernel_rfl) (by kernel_rfl) (by kernel_rfl) (fun _ _ _ h => h) (Or.inr ⟨by rfl, rfl⟩) (by assumption) ?_; try simp only [Act.put, List.setIfInBounds_toArray, List.set_cons_zero, List.set_cons_succ, List.getElem_toArray, List.getElem_cons_zero, List.getElem_cons_succ])
      (refine wpAnyH_take (i := 13) (v := undef) rfl (by kernel_rfl) (by kernel_rfl) (by kernel_rfl) (fun _ _ _ h => h) (Or.inr ⟨by rfl, rfl⟩) (by assumption) ?_; try simp only [Act.put, List.setIfInBounds_toArray, List.set_cons_zero, List.set_cons_succ, List.getElem_toArray, List.getElem_cons_zero, List.getElem_cons_succ])
      (refine wpAnyH_take (i := 14) (v := undef) rfl (by kernel_rfl) (by kernel_rfl) (by kernel_rfl) (fun _ _ _ h => h) (Or.inr ⟨by rfl, rfl⟩) (by assumption) ?_; try simp only [Act.put, List.setIfInBounds_toArray, List.set_cons_zero, List.set_cons_succ, List.getElem_toArray, List.getElem_cons_zero, List.getElem_cons_succ])
      (refine wpAnyH_take (i := 15) (v := undef) rfl (by kernel_rfl) (by kernel_rfl) (by kernel_rfl) (fun _ _ _ h => h) (Or.inr ⟨by rfl, rfl⟩) (by assumption) ?_; try simp only [Act.put, List.setIfInBounds_toArray, List.set_cons_zero, List.set_cons_succ, List.getElem_toArray, List.getElem_cons_zero, List.getElem_cons_succ])
      (refine wpAnyH_take (i := 16) (v := undef) rfl (by kernel_rfl) (by kernel_rfl) (by kernel_rfl) (fun _ _ _ h => h) (Or.inr ⟨by rfl, rfl⟩) (by assumption) ?_; try simp only [Act.put, List.setIfInBounds_toArray, List.set_cons_zero, List.set_cons_succ, List.getElem_toArray, List.getElem_cons_zero, List.getElem_cons_succ])
      (refine wpAnyH_take (i := 17) (v := ?_) rfl (by kernel_rfl) (by kernel_rfl) (by kernel_rfl) (fun _ _ _ h => h) (Or.inl ⟨by rfl, ?_⟩) (by assumption) ?_; rotate_left 1; (focus (intro w' hSw; (try dsimp only at hSw); go_simp; (try with_reducible rfl); done)); try simp only [Act.put, List.setIfInBounds_toArray, List.set_cons_zero, List.set_cons_succ, List.getElem_toArray, List.getElem_cons_zero, List.getElem_cons_succ])
      refine wpAnyH_done (by kernel_rfl) ?_ _
      have HB1 := Lib.hid hb1
      clear hb1
      go_wp2
      go_ret
      exact ⟨rfl, below_next HBU.out.drew (Nat.le_refl _) HB1.out⟩
  · have HD := Lib.hid (show decide ((F l).ow = -1) = false from decide_eq_false h1)
    have H1 := Lib.hid h1
    clear h1
    by_cases h2 : sl = sf
    · have hq : (sl != sf) = false := by simpa using h2
      have H2 := Lib.hid (show (F l).st = (F f).st by rw [← HSL.out, ← HSF.out]; exact h2)
      clear h2
      by_cases h3 : xl = -1
      · have hq3 : (xl != -1) = false := by simpa using h3
        have H3 := Lib.hid (show (F l).nx = -1 by rw [← HXL.out]; exact h3)
        clear h3
        cases h4 : fol F n f with
        | true =>
          rw [lnkB_of4 h4]
          have H4 := Lib.hid h4
          clear h4
          go_enter Tryd.func50, Tryd.ntmps50
          go_wp2_with fail
          rw [← HU.out]
          go_region_held3 (fun w' => w'.cell? ⟨w.heap.size, 0, none⟩ = some (.int .i64 s) ∧ w'.cell? ⟨w.heap.size, 1, none⟩ = some V1 ∧ w'.cell? ⟨w.heap.size, 2, none⟩ = some (.slice (some ⟨b, o, none⟩) n c') ∧ w'.cell? ⟨b, o + l * 3 + 1, none⟩ = some (.int .i64 sl) ∧ w'.cell? ⟨b, o + f * 3 + 1, none⟩ = some (.int .i64 sf))
            (first | exact ⟨p0, p1, p2, c1, d1⟩ | exact ⟨(hb1.cell (p := ⟨_, _, none⟩) pz).trans p0, (hb1.cell (p := ⟨_, _, none⟩) pz).trans p1, (hb1.cell (p := ⟨_, _, none⟩) pz).trans p2, (hb1.cell (p := ⟨_, _, none⟩) hbu).trans c1, (hb1.cell (p := ⟨_, _, none⟩) hbu).trans d1⟩)
            (first | (go_at_call 34; refine (isFree5_any s V1 (some ⟨b, o, none⟩) n c' l F _ HTD.out hl).mono ?_; rintro e w1 ⟨rfl, hb1⟩; rw [HD.out]))
          have HB1 := Lib.hid (below_next HBU.out.drew (Nat.le_refl _) hb1)
          have HT1 := Lib.hid (HTD.out.next hb1)
          have r0 := (hb1.cell (p := ⟨_, 0, none⟩) pz).trans p0
          have r1 := (hb1.cell (p := ⟨_, 1, none⟩) pz).trans p1
          have r2 := (hb1.cell (p := ⟨_, 2, none⟩) pz).trans p2
          have rz : w.heap.size < w1.heap.size := Nat.lt_of_lt_of_le pz hb1.size
          have e2 := (hb1.cell (p := ⟨b, o + l * 3 + 2, none⟩) hbu).trans c2
          clear hb1 p0 p1 p2 c0 c1 c2 d0 d1 d2 hbu
          go_wp2_with (go_at_call 62; refine (follows_any s V1 (some ⟨b, o, none⟩) n c' F f _ HT1.out (by omega)).mono ?_; rintro e w2 ⟨rfl, hb2⟩; rw [H4.out])
          go_ret
          exact ⟨rfl, below_next HB1.out (Nat.le_refl _) hb2⟩
        | false =>
          rw [lnkB_rest H1.out H2.out H3.out h4]
          have H4 := Lib.hid h4
          obtain ⟨M, hM, hlen⟩ := HV.out.len hf
          have HCL := Lib.hid (show (chL F n f).length ≤ 4096 by rw [chL_length hlen hM]; omega)
          clear h4 hM hlen
          go_enter Tryd.func50, Tryd.ntmps50
          go_wp2_with fail
          rw [← HU.out]
          go_region_held3 (fun w' => w'.cell? ⟨w.heap.size, 0, none⟩ = some (.int .i64 s) ∧ w'.cell? ⟨w.heap.size, 1, none⟩ = some V1 ∧ w'.cell? ⟨w.heap.size, 2, none⟩ = some (.slice (some ⟨b, o, none⟩) n c') ∧ w'.cell? ⟨b, o + l * 3 + 1, none⟩ = some (.int .i64 sl) ∧ w'.cell? ⟨b, o + f * 3 + 1, none⟩ = some (.int .i64 sf))
            (first | exact ⟨p0, p1, p2, c1, d1⟩ | exact ⟨(hb1.cell (p := ⟨_, _, none⟩) pz).trans p0, (hb1.cell (p := ⟨_, _, none⟩) pz).trans p1, (hb1.cell (p := ⟨_, _, none⟩) pz).trans p2, (hb1.cell (p := ⟨_, _, none⟩) hbu).trans c1, (hb1.cell (p := ⟨_, _, none⟩) hbu).trans d1⟩)
            (first | (go_at_call 34; refine (isFree5_any s V1 (some ⟨b, o, none⟩) n c' l F _ HTD.out hl).mono ?_; rintro e w1 ⟨rfl, hb1⟩; rw [HD.out]))
          have HB1 := Lib.hid (below_next HBU.out.drew (Nat.le_refl _) hb1)
          have HT1 := Lib.hid (HTD.out.next hb1)
          have BU1 := Lib.hid (show Blk w1 w.heap.size 30 #[.int .i64 s, V1, .slice (some ⟨b, o, none⟩) n c'] from (show Blk U.drew w.heap.size 30 #[.int .i64 s, V1, .slice (some ⟨b, o, none⟩) n c'] from BU).next hb1)
          have r0 := (hb1.cell (p := ⟨_, 0, none⟩) pz).trans p0
          have r1 := (hb1.cell (p := ⟨_, 1, none⟩) pz).trans p1
          have r2 := (hb1.cell (p := ⟨_, 2, none⟩) pz).trans p2
          have rz : w.heap.size < w1.heap.size := Nat.lt_of_lt_of_le pz hb1.size
          have e2 := (hb1.cell (p := ⟨b, o + l * 3 + 2, none⟩) hbu).trans c2
          clear hb1 p0 p1 p2 c0 c1 c2 d0 d1 d2 hbu
          go_wp2_with (first
            | (go_at_call 62; refine (follows_any s V1 (some ⟨b, o, none⟩) n c' F f _ HT1.out (by omega)).mono ?_; rintro e w2 ⟨rfl, hb2⟩; rw [H4.out]; have X := BU1.out.next hb2; have x0 := X.cell 0; have x1 := X.cell 1; have x2 := X.cell 2; have xz := X.lt; simp at x0 x1 x2; have HB2 := Lib.hid (below_next HB1.out (Nat.le_refl _) hb2); have HT2 := Lib.hid (HT1.out.next hb2); clear hb2 X)
            | (go_at_call 41; refine (framesFrom_any s V1 (some ⟨b, o, none⟩) n c' f F _ HT2.out hn HV.out hf).mono ?_; rintro e w3 ⟨A3, c3, rfl, hn3, hb3⟩; have HN3 := Lib.hid hn3; have HB3 := Lib.hid (below_next HB2.out (Nat.le_refl _) hb3); clear hn3 hb3)
            | (go_at_call 63; refine (contains_any A3 c3 (chL F n f) l _ HN3.out HCL.out).mono ?_; rintro e w4 ⟨rfl, hb4⟩))
          go_ret
          exact ⟨rfl, below_next HB3.out (Nat.le_refl _) hb4⟩
      · have hq3 : (xl != -1) = true := by simpa using h3
        rw [lnkB_of3 (by rw [← HXL.out]; exact h3)]
        clear h3
        go_enter Tryd.func50, Tryd.ntmps50
        go_wp2_with fail
        rw [← HU.out]
        go_region_held3 (fun w' => w'.cell? ⟨w.heap.size, 0, none⟩ = some (.int .i64 s) ∧ w'.cell? ⟨w.heap.size, 1, none⟩ = some V1 ∧ w'.cell? ⟨w.heap.size, 2, none⟩ = some (.slice (some ⟨b, o, none⟩) n c') ∧ w'.cell? ⟨b, o + l * 3 + 1, none⟩ = some (.int .i64 sl) ∧ w'.cell? ⟨b, o + f * 3 + 1, none⟩ = some (.int .i64 sf))
          (first | exact ⟨p0, p1, p2, c1, d1⟩ | exact ⟨(hb1.cell (p := ⟨_, _, none⟩) pz).trans p0, (hb1.cell (p := ⟨_, _, none⟩) pz).trans p1, (hb1.cell (p := ⟨_, _, none⟩) pz).trans p2, (hb1.cell (p := ⟨_, _, none⟩) hbu).trans c1, (hb1.cell (p := ⟨_, _, none⟩) hbu).trans d1⟩)
          (first | (go_at_call 34; refine (isFree5_any s V1 (some ⟨b, o, none⟩) n c' l F _ HTD.out hl).mono ?_; rintro e w1 ⟨rfl, hb1⟩; rw [HD.out]))
        have HB1 := Lib.hid (below_next HBU.out.drew (Nat.le_refl _) hb1)
        have r0 := (hb1.cell (p := ⟨_, 0, none⟩) pz).trans p0
        have r1 := (hb1.cell (p := ⟨_, 1, none⟩) pz).trans p1
        have r2 := (hb1.cell (p := ⟨_, 2, none⟩) pz).trans p2
        have e2 := (hb1.cell (p := ⟨b, o + l * 3 + 2, none⟩) hbu).trans c2
        clear hb1 p0 p1 p2 c0 c1 c2 d0 d1 d2 hbu
        go_wp2
        go_ret
        exact ⟨rfl, HB1.out⟩
    · have hq : (sl != sf) = true := by simpa using h2
      rw [lnkB_of2 (by rw [← HSL.out, ← HSF.out]; exact h2)]
      clear h2
      go_enter Tryd.func50, Tryd.ntmps50
      go_wp2_with fail
      rw [← HU.out]
      go_region_held3 (fun w' => w'.cell? ⟨w.heap.size, 0, none⟩ = some (.int .i64 s) ∧ w'.cell? ⟨w.heap.size, 1, none⟩ = some V1 ∧ w'.cell? ⟨w.heap.size, 2, none⟩ = some (.slice (some ⟨b, o, none⟩) n c') ∧ w'.cell? ⟨b, o + l * 3 + 1, none⟩ = some (.int .i64 sl) ∧ w'.cell? ⟨b, o + f * 3 + 1, none⟩ = some (.int .i64 sf))
        (first | exact ⟨p0, p1, p2, c1, d1⟩ | exact ⟨(hb1.cell (p := ⟨_, _, none⟩) pz).trans p0, (hb1.cell (p := ⟨_, _, none⟩) pz).trans p1, (hb1.cell (p := ⟨_, _, none⟩) pz).trans p2, (hb1.cell (p := ⟨_, _, none⟩) hbu).trans c1, (hb1.cell (p := ⟨_, _, none⟩) hbu).trans d1⟩)
        (first | (go_at_call 34; refine (isFree5_any s V1 (some ⟨b, o, none⟩) n c' l F _ HTD.out hl).mono ?_; rintro e w1 ⟨rfl, hb1⟩; rw [HD.out]))
      have HB1 := Lib.hid (below_next HBU.out.drew (Nat.le_refl _) hb1)
      clear hb1 p0 p1 p2 c0 c1 c2 d0 d1 d2 hbu
      go_wp2
      go_ret
      exact ⟨rfl, HB1.out⟩
end Go.Proofs.YthcfcciemjkilaaDoor

namespace Go.Proofs.YthcfcciemjkilaaDoor
open Go.RowKit
set_option maxRecDepth 100000
set_option linter.unusedVariables false

def LnkOut (s : Int) (nw : Nat) (wd : Nat → Int) (n : Nat) (F : Nat → Fr) (last f : Int) (w : World) (e : Ending) (w' : World) : Prop :=
  (∃ x : Int, lnkE s nw wd n F last f = x ∧ x ≠ 0 ∧ e = .returned (.tuple #[zSp, .int .i64 x]) ∧ Below w.heap.size w w') ∨
  (lnkE s nw wd n F last f = 0 ∧ ∃ (A1 : Option Addr) (c1 g c2 : Nat), e = .returned (.tuple #[.agg #[.int .i64 s, .slice A1 nw c1, .slice (some ⟨g, 0, none⟩) n c2], .int .i64 0]) ∧
    Own w' w.heap.size A1 nw c1 wd ∧ OwnT w' w.heap.size (some ⟨g, 0, none⟩) n c2 (link F last.toNat f) ∧ Below w.heap.size w w')
section
variable {s : Int} {nw : Nat} {wd : Nat → Int} {n : Nat} {F : Nat → Fr} {last f : Int} {w w' : World}
theorem lnk_bad (h : validB s nw wd n F = false) (hb : Below w.heap.size w w') : LnkOut s nw wd n F last f w (.returned (.tuple #[zSp, .int .i64 1])) w' :=
  .inl ⟨1, by unfold lnkE; rw [if_pos h], by decide, rfl, hb⟩
theorem lnk_out (h : validB s nw wd n F = true) (h2 : inB n last = false ∨ inB n f = false) (hb : Below w.heap.size w w') : LnkOut s nw wd n F last f w (.returned (.tuple #[zSp, .int .i64 2])) w' :=
  .inl ⟨2, by unfold lnkE; rw [if_neg (by simp [h]), if_pos h2], by decide, rfl, hb⟩
theorem lnk_state {l g : Nat} (h : validB s nw wd n F = true) (hl : l < n) (hg : g < n) (h2 : lnkB F n l g = true) (hb : Below w.heap.size w w') : LnkOut s nw wd n F l g w (.returned (.tuple #[zSp, .int .i64 5])) w' :=
  .inl ⟨5, by unfold lnkE; rw [if_neg (by simp [h]), if_neg (by simp [inB]; omega), Int.toNat_natCast, Int.toNat_natCast, if_pos h2], by decide, rfl, hb⟩
theorem lnk_ok {l g : Nat} (h : validB s nw wd n F = true) (hl : l < n) (hg : g < n) (h2 : lnkB F n l g = false) : lnkE s nw wd n F l g = 0 := by
  unfold lnkE; rw [if_neg (by simp [h]), if_neg (by simp [inB]; omega), Int.toNat_natCast, Int.toNat_natCast, if_neg (by rw [h2]; decide)]
end
theorem link_set {F : Nat → Fr} {l : Nat} {f : Int} : (fun j => if j = l then (⟨(F l).ow, (F l).st, f⟩ : Fr) else F j) = link F l f := rfl

set_option maxHeartbeats 4000000 in
theorem link5_any (s : Int) (A A' : Option Addr) (nw c n c' : Nat) (wd : Nat → Int) (F : Nat → Fr) (last f : Int) (w : World) (hA : Arr w w.heap.size A nw c wd) (hT : Tab w w.heap.size A' n c' F) :
    Calls Tryd.prog 31 #[.agg #[.int .i64 s, .slice A nw c, .slice A' n c'], .int .i64 last, .int .i64 f] w (LnkOut s nw wd n F last f w) := by
  obtain ⟨U, hU⟩ : ∃ U, U = (w.alloc (.cells #[.int .i64 s, .slice A nw c, .slice A' n c'] 30)).alloc (.cells #[.int .i64 0, .slice none 0 0, .slice none 0 0] 30) := ⟨_, rfl⟩
  have BX := Lib.hid (show Blk U w.heap.size 30 #[.int .i64 s, .slice A nw c, .slice A' n c'] by rw [hU]; exact (Blk.new _ _ _).alloc _)
  have BR := Lib.hid (show Blk U (w.heap.size + 1) 30 #[.int .i64 0, .slice none 0 0, .slice none 0 0] by rw [hU]; exact Blk.newAt _ _ _ _ (by simp))
  have hbu : Below w.heap.size w U := by rw [hU]; exact ((Below.refl _ _).alloc (Nat.le_refl _) _).alloc (by simp) _
  have HBU := Lib.hid hbu
  have HU := Lib.hid hU
  have HA := Lib.hid (hA.next hbu)
  have HT := Lib.hid (hT.next hbu)
  clear hA hT hU hbu
  cases hv : validB s nw wd n F with
  | false =>
    have HV := Lib.hid hv
    clear hv
    go_enter Tryd.func31, Tryd.ntmps31
    go_wp2_with (go_at_call 32; rw [← HU.out]; refine (valid_any s A A' nw c n c' wd F U HA.out HT.out).mono ?_; rintro e w1 ⟨rfl, hb1⟩; rw [HV.out]; have R := BR.out.next hb1; have r0 := R.cell 0; have r1 := R.cell 1; have r2 := R.cell 2; have f0 := R.frozen 0; have f1 := R.frozen 1; have f2 := R.frozen 2; have rz := R.lt; simp at r0 r1 r2)
    refine bodyPost_ret (v := .tuple #[.agg #[.int .i64 0, .slice none 0 0, .slice none 0 0], .int .i64 1]) (by simp [results, Tryd.results31, go_sem, r0, r1, r2]) rfl (lnk_bad HV.out (below_put3 (below_next HBU.out (Nat.le_refl _) hb1) (by omega) _ _ _))
  | true =>
    have hvp := validB_of hv
    have HV := Lib.hid hv
    cases hl : inB n last with
    | false =>
      have HL := Lib.hid hl
      clear hl hv hvp
      go_enter Tryd.func31, Tryd.ntmps31
      go_wp2_with (first
        | (go_at_call 32; rw [← HU.out]; refine (valid_any s A A' nw c n c' wd F U HA.out HT.out).mono ?_; rintro e w1 ⟨rfl, hb1⟩; rw [HV.out]; have X := BX.out.next hb1; have x0 := X.cell 0; have x1 := X.cell 1; have x2 := X.cell 2; have xz := X.lt; simp at x0 x1 x2)
        | (go_at_call 40; refine (isFrame5_any s _ A' n c' last _).mono ?_; rintro e w2 ⟨rfl, hb2⟩; rw [HL.out]; have R := BR.out.next (below_next hb1 (Nat.le_refl _) hb2); have r0 := R.cell 0; have r1 := R.cell 1; have r2 := R.cell 2; have f0 := R.frozen 0; have f1 := R.frozen 1; have f2 := R.frozen 2; have rz := R.lt; simp at r0 r1 r2))
      refine bodyPost_ret (v := .tuple #[.agg #[.int .i64 0, .slice none 0 0, .slice none 0 0], .int .i64 2]) (by simp [results, Tryd.results31, go_sem, r0, r1, r2]) rfl (lnk_out HV.out (.inl HL.out) (below_put3 (below_next HBU.out (Nat.le_refl _) (below_next hb1 (Nat.le_refl _) hb2)) (by omega) _ _ _))
    | true =>
      have HL := Lib.hid hl
      cases hf : inB n f with
      | false =>
        have HF := Lib.hid hf
        clear hl hf hv hvp
        go_enter Tryd.func31, Tryd.ntmps31
        go_wp2_with (first
          | (go_at_call 32; rw [← HU.out]; refine (valid_any s A A' nw c n c' wd F U HA.out HT.out).mono ?_; rintro e w1 ⟨rfl, hb1⟩; rw [HV.out]; have X := BX.out.next hb1; have x0 := X.cell 0; have x1 := X.cell 1; have x2 := X.cell 2; have xz := X.lt; simp at x0 x1 x2; have HX := Lib.hid X; have HB1 := Lib.hid hb1; clear hb1 X)
          | (go_at_call 40; (with_reducible show Calls _ _ #[_, .int .i64 last] w1 _); refine (isFrame5_any s _ A' n c' last _).mono ?_; rintro e w2 ⟨rfl, hb2⟩; rw [HL.out]; have Y := HX.out.next hb2; have y0 := Y.cell 0; have y1 := Y.cell 1; have y2 := Y.cell 2; have yz := Y.lt; simp at y0 y1 y2; have HB2 := Lib.hid (below_next HB1.out (Nat.le_refl _) hb2); clear hb2 Y)
          | (go_at_call 40; (with_reducible show Calls _ _ #[_, .int .i64 f] w2 _); refine (isFrame5_any s _ A' n c' f _).mono ?_; rintro e w3 ⟨rfl, hb3⟩; rw [HF.out]; have R := BR.out.next (below_next HB2.out (Nat.le_refl _) hb3); have r0 := R.cell 0; have r1 := R.cell 1; have r2 := R.cell 2; have f0 := R.frozen 0; have f1 := R.frozen 1; have f2 := R.frozen 2; have rz := R.lt; simp at r0 r1 r2))
        refine bodyPost_ret (v := .tuple #[.agg #[.int .i64 0, .slice none 0 0, .slice none 0 0], .int .i64 2]) (by simp [results, Tryd.results31, go_sem, r0, r1, r2]) rfl (lnk_out HV.out (.inr HF.out) (below_put3 (below_next HBU.out (Nat.le_refl _) (below_next HB2.out (Nat.le_refl _) hb3)) (by omega) _ _ _))
      | true =>
        have HF := Lib.hid hf
        obtain ⟨l, rfl, hln⟩ := inB_nat hl
        obtain ⟨g0, rfl, hgn⟩ := inB_nat hf
        obtain ⟨n0, n64⟩ := nfB_yes hvp.2.1
        obtain ⟨nz, _, w0, w20⟩ := take_bounds hvp
        have HFV := Lib.hid hvp.fv
        cases hlk : lnkB F n l g0 with
        | true =>
          have HK := Lib.hid hlk
          clear hl hf hv hvp hlk
          go_enter Tryd.func31, Tryd.ntmps31
          go_wp2_with (first
            | (go_at_call 32; rw [← HU.out]; refine (valid_any s A A' nw c n c' wd F U HA.out HT.out).mono ?_; rintro e w1 ⟨rfl, hb1⟩; rw [HV.out]; have X := BX.out.next hb1; have x0 := X.cell 0; have x1 := X.cell 1; have x2 := X.cell 2; have xz := X.lt; simp at x0 x1 x2; have HX := Lib.hid X; have HB1 := Lib.hid hb1; clear hb1 X)
            | (go_at_call 40; (with_reducible show Calls _ _ #[_, .int .i64 l] w1 _); refine (isFrame5_any s _ A' n c' l _).mono ?_; rintro e w2 ⟨rfl, hb2⟩; rw [HL.out]; have Y := HX.out.next hb2; have y0 := Y.cell 0; have y1 := Y.cell 1; have y2 := Y.cell 2; have yz := Y.lt; simp at y0 y1 y2; have HB2 := Lib.hid (below_next HB1.out (Nat.le_refl _) hb2); have HY := Lib.hid Y; clear hb2 Y)
            | (go_at_call 40; (with_reducible show Calls _ _ #[_, .int .i64 g0] w2 _); refine (isFrame5_any s _ A' n c' g0 _).mono ?_; rintro e w3 ⟨rfl, hb3⟩; rw [HF.out]; have Z := HY.out.next hb3; have z0 := Z.cell 0; have z1 := Z.cell 1; have z2 := Z.cell 2; have zz := Z.lt; simp at z0 z1 z2; have HB3 := Lib.hid (below_next HB2.out (Nat.le_refl _) hb3); clear hb3 Z)
            | (go_at_call 50; refine (canFollow_any s _ A' n c' l g0 F _ (HT.out.next HB3.out) (by omega) HFV.out hln hgn).mono ?_; rintro e w4 ⟨rfl, hb4⟩; rw [HK.out]; have R := BR.out.next (below_next HB3.out (Nat.le_refl _) hb4); have r0 := R.cell 0; have r1 := R.cell 1; have r2 := R.cell 2; have f0 := R.frozen 0; have f1 := R.frozen 1; have f2 := R.frozen 2; have rz := R.lt; simp at r0 r1 r2))
          refine bodyPost_ret (v := .tuple #[.agg #[.int .i64 0, .slice none 0 0, .slice none 0 0], .int .i64 5]) (by simp [results, Tryd.results31, go_sem, r0, r1, r2]) rfl (lnk_state HV.out hln hgn HK.out (below_put3 (below_next HBU.out (Nat.le_refl _) (below_next HB3.out (Nat.le_refl _) hb4)) (by omega) _ _ _))
        | false =>
          have HK := Lib.hid hlk
          have hl2 : 0 ≤ (l : Int) ∧ (l : Int) < n := by omega
          clear hl hf hv hvp hlk
          go_enter Tryd.func31, Tryd.ntmps31
          go_upto_region 8 with (first
            | (go_at_call 32; rw [← HU.out]; refine (valid_any s A A' nw c n c' wd F U HA.out HT.out).mono ?_; rintro e w1 ⟨rfl, hb1⟩; rw [HV.out]; have X := BX.out.next hb1; have x0 := X.cell 0; have x1 := X.cell 1; have x2 := X.cell 2; have xz := X.lt; simp at x0 x1 x2; have HX := Lib.hid X; have HB1 := Lib.hid hb1; clear hb1 X)
            | (go_at_call 40; (with_reducible show Calls _ _ #[_, .int .i64 l] w1 _); refine (isFrame5_any s _ A' n c' l _).mono ?_; rintro e w2 ⟨rfl, hb2⟩; rw [HL.out]; have Y := HX.out.next hb2; have y0 := Y.cell 0; have y1 := Y.cell 1; have y2 := Y.cell 2; have yz := Y.lt; simp at y0 y1 y2; have HB2 := Lib.hid (below_next HB1.out (Nat.le_refl _) hb2); have HY := Lib.hid Y; clear hb2 Y)
            | (go_at_call 40; (with_reducible show Calls _ _ #[_, .int .i64 g0] w2 _); refine (isFrame5_any s _ A' n c' g0 _).mono ?_; rintro e w3 ⟨rfl, hb3⟩; rw [HF.out]; have Z := HY.out.next hb3; have z0 := Z.cell 0; have z1 := Z.cell 1; have z2 := Z.cell 2; have zz := Z.lt; simp at z0 z1 z2; have HB3 := Lib.hid (below_next HB2.out (Nat.le_refl _) hb3); have HZ := Lib.hid Z; clear hb3 Z)
            | (go_at_call 50; refine (canFollow_any s _ A' n c' l g0 F _ (HT.out.next HB3.out) (by omega) HFV.out hln hgn).mono ?_; rintro e w4 ⟨rfl, hb4⟩; rw [HK.out]; have Q := HZ.out.next hb4; have q0 := Q.cell 0; have q1 := Q.cell 1; have q2 := Q.cell 2; have qz := Q.lt; simp at q0 q1 q2; have HB4 := Lib.hid (below_next HB3.out (Nat.le_refl _) hb4); clear hb4 Q)
            | (go_at_call 51; refine (clone5_any s A A' nw c n c' wd F w4 (HA.out.next HB4.out) (HT.out.next HB4.out) (by omega) nz (by omega) w0).mono ?_; rintro e w5 ⟨A1, c1, g, c2, rfl, hoA, hoT, hb5⟩))
          obtain ⟨W, hW⟩ : ∃ W, W = w5.alloc (.cells #[.int .i64 s, .slice A1 nw c1, .slice (some ⟨g, 0, none⟩) n c2] 30) := ⟨_, rfl⟩
          have hbw : Below w5.heap.size w5 W := by rw [hW]; exact (Below.refl _ _).alloc (Nat.le_refl _) _
          have BO : Blk W w5.heap.size 30 #[.int .i64 s, .slice A1 nw c1, .slice (some ⟨g, 0, none⟩) n c2] := by rw [hW]; exact Blk.new _ _ _
          obtain ⟨g1, g2, _⟩ := hoT.spotAt l hln frFree
          obtain ⟨_, g3, k0, k1, k2, f0, f1, f2, _, hnew⟩ := (hoT.below hbw).spotAt l hln ⟨0, 0, g0⟩
          have hb15 := below_next HB4.out (Nat.le_refl _) hb5
          have hb1W := below_next hb15 (Nat.le_refl _) hbw
          have R := BR.out.next hb1W
          have z4 : w.heap.size + 1 < w4.heap.size := (BR.out.next HB4.out).lt
          obtain ⟨V, hV⟩ : ∃ V, V = W.setCell ⟨g, l * 3 + 2, none⟩ (.int .i64 g0) := ⟨_, rfl⟩
          have p2 := BO.cell 2
          simp at p2
          have BO2 : Blk V w5.heap.size 30 #[.int .i64 s, .slice A1 nw c1, .slice (some ⟨g, 0, none⟩) n c2] := by rw [hV]; exact BO.far (p := ⟨g, _, none⟩) (show w5.heap.size ≠ g by omega) _
          have R2 : Blk V (w.heap.size + 1) 30 #[.int .i64 0, .slice none 0 0, .slice none 0 0] := by rw [hV]; exact R.far (p := ⟨g, _, none⟩) (show w.heap.size + 1 ≠ g by omega) _
          have HOV : Hid (Own V w4.heap.size A1 nw c1 wd) := by
            rw [hV]
            have h1 := hoA.below hbw
            rcases A1 with _ | y
            · obtain ⟨h2, h3, h4 | ⟨_, _, h4, _⟩⟩ := h1
              · exact Lib.hid ⟨h2, h3, .inl h4⟩
              · cases h4
            · obtain ⟨h2, h3, h4 | ⟨x, cur, h4, h5⟩⟩ := h1
              · cases h4.1
              · injection h4 with h4
                subst h4
                exact Lib.hid (Own.apart (p := ⟨g, l * 3 + 2, none⟩) ⟨h2, h3, .inr ⟨x, cur, rfl, h5⟩⟩ (own_apart ⟨h2, h3, .inr ⟨x, cur, rfl, h5⟩⟩ (hoT.below hbw)) _)
          have HNEW : Hid (OwnT V w4.heap.size (some ⟨g, 0, none⟩) n c2 (link F l g0)) := by rw [hV]; exact Lib.hid hnew
          have zw4 : w.heap.size ≤ w4.heap.size := by omega
          have hgw : w.heap.size ≤ g := by omega
          have HBV : Hid (Below w.heap.size w V) := by rw [hV]; exact Lib.hid ((below_next HBU.out (Nat.le_refl _) hb1W).setCell (p := ⟨g, _, none⟩) hgw _)
          have HW := Lib.hid hW
          have HVV := Lib.hid hV
          have q0 := BO2.cell 0
          have q1 := BO2.cell 1
          have q2 := BO2.cell 2
          have r0 := R2.cell 0
          have r1 := R2.cell 1
          have r2 := R2.cell 2
          have rf0 := R2.frozen 0
          have rf1 := R2.frozen 1
          have rf2 := R2.frozen 2
          have z2 := BO.lt
          have z3 := BO2.lt
          have z5 := R2.lt
          simp at q0 q1 q2 r0 r1 r2
          clear hW hV hnew hoT hoA hbw
          rw [← HW.out]
          go_upto_region 9 with fail
          rw [← HVV.out]
          go_wp2
          refine bodyPost_ret (v := .tuple #[.agg #[.int .i64 s, .slice A1 nw c1, .slice (some ⟨g, 0, none⟩) n c2], .int .i64 0]) (by simp [results, Tryd.results31, go_sem, r0, r1, r2]) rfl (.inr ⟨lnk_ok HV.out hln hgn HK.out, A1, c1, g, c2, rfl, ?_, ?_, ?_⟩)
          · exact (HOV.out.put3 z4 _ _ _).lower zw4
          · exact (HNEW.out.put3 z4 _ _ _).lower zw4
          · exact below_put3 HBV.out (by omega) _ _ _
end Go.Proofs.YthcfcciemjkilaaDoor

namespace Go.Proofs.YthcfcciemjkilaaDoor
open Go.RowKit
set_option maxRecDepth 100000
set_option linter.unusedVariables false

section
variable {F : Nat → Fr} {n : Nat}
theorem path_snoc : ∀ (q : Nat) (f : Int), (∀ i, i ≤ q → iter F i f ≠ -1) → path F (q + 1) f = path F q f ++ [(iter F q f).toNat]
  | 0, f, h => by
    have e : f ≠ -1 := by simpa only [iter] using h 0 (Nat.le_refl _)
    simp only [path, if_neg e, List.nil_append, iter]
  | q + 1, f, h => by
    have e : f ≠ -1 := by simpa only [iter] using h 0 (by omega)
    have ih := path_snoc q (F f.toNat).nx (fun i hi => by simpa only [iter, if_neg e] using h (i + 1) (by omega))
    rw [show path F (q + 1 + 1) f = f.toNat :: path F (q + 1) (F f.toNat).nx by simp only [path, if_neg e], ih]
    simp only [path, if_neg e, List.cons_append, iter]
theorem path_stop : ∀ (m M : Nat) (f : Int), m ≤ M → LenP F f m → path F M f = path F m f
  | 0, M, f, _, h => by
    have e : f = -1 := by simpa only [iter] using h.1
    subst e
    rw [path_none, path_none]
  | m + 1, 0, f, hm, _ => absurd hm (by omega)
  | m + 1, M + 1, f, hm, h => by
    have e : f ≠ -1 := by simpa only [iter] using h.2 0 (by omega)
    have ih := path_stop m M (F f.toNat).nx (by omega) ⟨by simpa only [iter, if_neg e] using h.1, fun i hi => by simpa only [iter, if_neg e] using h.2 (i + 1) (by omega)⟩
    simp only [path, if_neg e, ih]
/-- What the reference looks at first. -/
def bad0 (F : Nat → Fr) (l f : Nat) : Bool := (((((F l).ow == -1) || ((F f).ow == -1)) || ((F l).st != (F f).st)) || ((F l).nx != -1)) || ((f : Int) == (l : Int))
theorem bad0_all {l f : Nat} (h : FV F n) (hl : l < n) (hf : f < n) : (bad0 F l f || fol F n f || decide (l ∈ chL F n f)) = lnkB F n l f := by
  by_cases h1 : (F l).ow = -1
  · rw [lnkB_of1 h1]; simp [bad0, h1]
  · by_cases h2 : (F l).st = (F f).st
    · by_cases h3 : (F l).nx = -1
      · cases h4 : fol F n f with
        | true => rw [lnkB_of4 h4]; simp
        | false =>
          rw [lnkB_rest h1 h2 h3 h4]
          have h5 : (F f).ow ≠ -1 := by
            intro e
            have h6 := h.free hf e
            have h7 := stB_yes (ownB_yes (h.own hl h1)).1
            rw [h2, h6] at h7
            have : (frFree.st : Int) = -1 := rfl
            omega
          by_cases h8 : f = l
          · have h9 : l ∈ chL F n f := by
              rw [mem_chL h hf]
              exact ⟨0, by omega, by simp only [iter]; omega⟩
            simp [h9]
          · simp [bad0, h1, h2, h3, h5]
            omega
      · rw [lnkB_of3 h3]; simp [bad0, h3]
    · rw [lnkB_of2 h2]; simp [bad0, h2]
end

theorem lenP_inj {F : Nat → Fr} {p : Int} {m i j : Nat} (h : LenP F p m) (hij : i < j) (hj : j < m) : iter F i p ≠ iter F j p := by
  intro e
  have h1 : iter F (j + (m - j)) p = -1 := by rw [show j + (m - j) = m by omega]; exact h.1
  rw [iter_add, ← e, ← iter_add] at h1
  exact h.2 (i + (m - j)) (by omega) h1
theorem own_set1 {w : World} {base base' nw c n c2 g i : Nat} {A : Option Addr} {wd : Nat → Int} {F : Nat → Fr} (h : Own w base A nw c wd) (hT : OwnT w base' (some ⟨g, 0, none⟩) n c2 F) (u : Value) : Own (w.setCell ⟨g, i, none⟩ u) base A nw c wd := by
  rcases A with _ | y
  · obtain ⟨h2, h3, h4 | ⟨_, _, h4, _⟩⟩ := h
    · exact ⟨h2, h3, .inl h4⟩
    · cases h4
  · obtain ⟨h2, h3, h4 | ⟨x, cur, h4, h5⟩⟩ := h
    · cases h4.1
    · injection h4 with h4
      subst h4
      exact Own.apart (p := ⟨g, i, none⟩) ⟨h2, h3, .inr ⟨x, cur, rfl, h5⟩⟩ (own_apart ⟨h2, h3, .inr ⟨x, cur, rfl, h5⟩⟩ hT) _
/-- How many frames of a chain of m frames are still to come. -/
noncomputable def leftP (F : Nat → Fr) (n p m : Nat) (g : Int) : Nat := if g = -1 then 0 else m - (chL F n p).idxOf g.toNat
theorem leftP_end {F : Nat → Fr} {n p m : Nat} : leftP F n p m (-1) = 0 := if_pos rfl
theorem leftP_at {F : Nat → Fr} {n p m q : Nat} (h : FV F n) (hp : p < n) (hl : LenP F p m) (hq : q < m) : leftP F n p m (iter F q p) = m - q := by
  have h1 := h.nonneg hp (hl.2 q hq)
  have h2 := chL_index h hp hl hq (x := (iter F q p).toNat) (by omega) (fun i hi => by
    have h3 := lenP_inj hl hi hq
    omega)
  unfold leftP
  rw [if_neg (by omega), h2]

/-- Two boxes of frames, apart. -/
def TwoFr (R : World) (x y : Fr) (v u : Value) (W : World) : Prop := ∃ a b : Nat, v = .pointer (some ⟨a, 0, none⟩) ∧ u = .pointer (some ⟨b, 0, none⟩) ∧ Blk W a 42 #[.int .i64 x.ow, .int .i64 x.st, .int .i64 x.nx] ∧ Blk W b 42 #[.int .i64 y.ow, .int .i64 y.st, .int .i64 y.nx] ∧ Below R.heap.size R W

end Go.Proofs.YthcfcciemjkilaaDoor
