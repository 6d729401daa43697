/-
  The developers' order: Stamp, Before, the Seqs of increments, Prefix.
-/
import Derived.Test.YtlafkkekfkamoaaUSam
import Derived.Test.YtlafkkekfkamoaaURow
import Derived.Deep.RegionHeld3
namespace Go.Proofs.Ytlafkkekfkamoaa
open Go.RowKit
set_option maxRecDepth 100000
set_option linter.unusedVariables false

/-- The stamp of an increment. -/
def stampZ (bt sq : Int) : Int := wrap64 (wrap64 (bt * 4294967296) + sq)
theorem stamp_any (sq bt fi la wo : Int) (w : World) : Calls Try.prog 8 #[.agg #[.int .i64 sq, .int .i64 bt, .int .i64 fi, .int .i64 la, .int .i64 wo]] w fun e w' => e = .returned (.int .i64 (stampZ bt sq)) ∧ Below w.heap.size w w' := by
  go_enter Try.func8, Try.ntmps8
  go_wp2
  go_ret
  exact ⟨rfl, (Below.refl _ _).alloc (Nat.le_refl _) _⟩
theorem before_any (sq bt fi la wo sq' bt' fi' la' wo' : Int) (w : World) : Calls Try.prog 10 #[.agg #[.int .i64 sq, .int .i64 bt, .int .i64 fi, .int .i64 la, .int .i64 wo], .agg #[.int .i64 sq', .int .i64 bt', .int .i64 fi', .int .i64 la', .int .i64 wo']] w fun e w' => e = .returned (.bool (decide (stampZ bt sq < stampZ bt' sq'))) ∧ Below w.heap.size w w' := by
  go_enter Try.func10, Try.ntmps10
  obtain ⟨U, hU⟩ : ∃ U, U = (w.alloc (.cells #[.int .i64 sq, .int .i64 bt, .int .i64 fi, .int .i64 la, .int .i64 wo] 24)).alloc (.cells #[.int .i64 sq', .int .i64 bt', .int .i64 fi', .int .i64 la', .int .i64 wo'] 24) := ⟨_, rfl⟩
  have B1 : Blk U w.heap.size 24 #[.int .i64 sq, .int .i64 bt, .int .i64 fi, .int .i64 la, .int .i64 wo] := by rw [hU]; exact (Blk.new _ _ _).alloc _
  have B2 : Blk U (w.heap.size + 1) 24 #[.int .i64 sq', .int .i64 bt', .int .i64 fi', .int .i64 la', .int .i64 wo'] := by rw [hU]; exact Blk.newAt _ _ _ _ (by simp)
  have HBU : Hid (Below w.heap.size w U) := by rw [hU]; exact ((Below.refl _ _).alloc (Nat.le_refl _) _).alloc (by simp) _
  have HU := Lib.hid hU
  have l1 := B1.lt
  have l2 := B2.lt
  have p0 := B1.cell 0
  have p1 := B1.cell 1
  have p2 := B1.cell 2
  have p3 := B1.cell 3
  have p4 := B1.cell 4
  have r0 := B2.cell 0
  have r1 := B2.cell 1
  have r2 := B2.cell 2
  have r3 := B2.cell 3
  have r4 := B2.cell 4
  simp at p0 p1 p2 p3 p4 r0 r1 r2 r3 r4
  clear hU B1 B2
  go_wp2_with fail
  rw [← HU.out]
  go_region_held3 (fun w' => w'.cell? ⟨w.heap.size, 0, none⟩ = some (.int .i64 sq) ∧ w'.cell? ⟨w.heap.size, 1, none⟩ = some (.int .i64 bt) ∧ w'.cell? ⟨w.heap.size, 2, none⟩ = some (.int .i64 fi) ∧ w'.cell? ⟨w.heap.size, 3, none⟩ = some (.int .i64 la) ∧ w'.cell? ⟨w.heap.size, 4, none⟩ = some (.int .i64 wo) ∧ w'.cell? ⟨w.heap.size + 1, 0, none⟩ = some (.int .i64 sq') ∧ w'.cell? ⟨w.heap.size + 1, 1, none⟩ = some (.int .i64 bt') ∧ w'.cell? ⟨w.heap.size + 1, 2, none⟩ = some (.int .i64 fi') ∧ w'.cell? ⟨w.heap.size + 1, 3, none⟩ = some (.int .i64 la') ∧ w'.cell? ⟨w.heap.size + 1, 4, none⟩ = some (.int .i64 wo'))
    (first | (with_reducible exact ⟨p0, p1, p2, p3, p4, r0, r1, r2, r3, r4⟩) | (with_reducible exact ⟨q0, q1, q2, q3, q4, s0, s1, s2, s3, s4⟩) | exact ⟨p0, p1, p2, p3, p4, r0, r1, r2, r3, r4⟩)
    (first
      | ((with_reducible show Calls _ _ #[.agg #[.int .i64 sq, _, _, _, _]] _ _); go_at_call 8; refine (stamp_any sq bt fi la wo _).mono ?_; rintro e w1 ⟨rfl, hb⟩; have q0 := (hb.cell (p := ⟨w.heap.size, 0, none⟩) l1).trans p0; have q1 := (hb.cell (p := ⟨w.heap.size, 1, none⟩) l1).trans p1; have q2 := (hb.cell (p := ⟨w.heap.size, 2, none⟩) l1).trans p2; have q3 := (hb.cell (p := ⟨w.heap.size, 3, none⟩) l1).trans p3; have q4 := (hb.cell (p := ⟨w.heap.size, 4, none⟩) l1).trans p4; have s0 := (hb.cell (p := ⟨w.heap.size + 1, 0, none⟩) l2).trans r0; have s1 := (hb.cell (p := ⟨w.heap.size + 1, 1, none⟩) l2).trans r1; have s2 := (hb.cell (p := ⟨w.heap.size + 1, 2, none⟩) l2).trans r2; have s3 := (hb.cell (p := ⟨w.heap.size + 1, 3, none⟩) l2).trans r3; have s4 := (hb.cell (p := ⟨w.heap.size + 1, 4, none⟩) l2).trans r4)
      | (go_at_call 8; refine (stamp_any sq' bt' fi' la' wo' _).mono ?_; rintro e w2 ⟨rfl, hb2⟩; replace hb := Below.trans hb (hb2.mono hb.size); have q0 := (hb.cell (p := ⟨w.heap.size, 0, none⟩) l1).trans p0; have q1 := (hb.cell (p := ⟨w.heap.size, 1, none⟩) l1).trans p1; have q2 := (hb.cell (p := ⟨w.heap.size, 2, none⟩) l1).trans p2; have q3 := (hb.cell (p := ⟨w.heap.size, 3, none⟩) l1).trans p3; have q4 := (hb.cell (p := ⟨w.heap.size, 4, none⟩) l1).trans p4; have s0 := (hb.cell (p := ⟨w.heap.size + 1, 0, none⟩) l2).trans r0; have s1 := (hb.cell (p := ⟨w.heap.size + 1, 1, none⟩) l2).trans r1; have s2 := (hb.cell (p := ⟨w.heap.size + 1, 2, none⟩) l2).trans r2; have s3 := (hb.cell (p := ⟨w.heap.size + 1, 3, none⟩) l2).trans r3; have s4 := (hb.cell (p := ⟨w.heap.size + 1, 4, none⟩) l2).trans r4))
  all_goals
    go_wp2
    go_ret
    exact ⟨rfl, below_next HBU.out.drew (Nat.le_refl _) hb⟩


theorem make_nums (n : Nat) (hn : n ≤ 4096) (w : World) :
    (Instr.makeSlice 31 (.int .i64 (n : Int)) (.int .i64 (n : Int))).run Try.prog w = .ok (.slice (some ⟨w.heap.size, 0, none⟩) n n) (w.alloc (.cells (madeCells #[.int .i64 0] n) 3)) := by
  obtain ⟨i, hi, e⟩ := Option.map_eq_some_iff.1 int_info
  simp only [Prod.mk.injEq] at e
  obtain ⟨e1, e2, e3⟩ := e
  have h := run_make_rowN (P := Try.prog) 31 3 i _ Try.underlying31 hi e1 .i64 .i64 n n (Nat.le_refl _) (by rw [e3]; omega) (by omega) w
  rw [e2, Nat.mul_one] at h
  exact h
/-- The Seqs of the first t increments; 0 behind them. -/
def sqK (F : List IncR) (t : Nat) (j : Nat) : Int := if j < t then ((F[j]?).map (·.sq)).getD 0 else 0
set_option maxHeartbeats 2000000 in
theorem seqsOf_any (A : Option Addr) (c : Nat) (F : List IncR) (w : World) (hF : LArr w (Lt w.heap.size) A c F) (hl : F.length ≤ 4096) : Calls Try.prog 32 #[.slice A F.length c] w (OwnOf (F.map (·.sq)) w) := by
  unfold OwnOf
  rw [List.length_map]
  have hmk := make_nums F.length hl w
  obtain ⟨V, hV⟩ : ∃ V, V = w.alloc (.cells (madeCells #[.int .i64 0] F.length) 3) := ⟨_, rfl⟩
  obtain ⟨g, hg⟩ : ∃ g, g = w.heap.size := ⟨_, rfl⟩
  have hR : Row V g 3 F.length (fun j => .int .i64 (sqK F 0 j)) := by
    rw [hV, hg]
    exact ⟨_, heap_alloc_new w _, size_madeCells _ _, fun j hj => by simp [madeCells, hj, Nat.mod_one, sqK]⟩
  have HV := Lib.hid hV
  have HR := Lib.hid hR
  have HB := Lib.hid (show Below w.heap.size w V by rw [hV]; exact (Below.refl _ _).alloc (Nat.le_refl _) _)
  have HF := Lib.hid hF
  have hm := hF.2.1
  have hm' := hF.1
  simp only [maxLen] at hm
  rw [← hV, ← hg] at hmk
  have HG := Lib.hid hg
  clear hV hR hF hg
  go_enter Try.func32, Try.ntmps32
  go_wp2_with fail
  go_loopw [4, 5, 11] (fun _ _ i wr => ∃ t : Nat, t ≤ F.length ∧ i = .int .i64 t ∧ Row wr g 3 F.length (fun j => .int .i64 (sqK F t j)) ∧ Below w.heap.size w wr) (fun _ _ i _ => F.length - (intOf i).toNat)
  case atStart => exact ⟨0, by omega, rfl, HR.out, HB.out⟩
  case round =>
    obtain ⟨t, ht, rfl, hr, hb⟩ := hrel
    obtain ⟨R, rfl⟩ : ∃ R, R = wr := ⟨_, rfl⟩
    have HB2 := Lib.hid hb
    have HF2 := Lib.hid (HF.out.next hb)
    have HR2 := Lib.hid hr
    by_cases hlt : t < F.length
    · have hlt2 : 0 ≤ (t : Int) ∧ (t : Int) < F.length := by omega
      obtain ⟨i, hi⟩ := nth_of hlt
      obtain ⟨b, o, rfl, _, _, d0, d1, d2, d3, d4⟩ := HF2.out.at_ hi
      obtain ⟨x0, hx0⟩ : ∃ x, x = i.sq := ⟨_, rfl⟩
      rw [← hx0] at d0
      have HX := Lib.hid (show F[t]?.map (·.sq) = some x0 by rw [hi, hx0]; rfl)
      generalize i.bt = x1 at d1
      generalize i.fi = x2 at d2
      generalize i.la = x3 at d3
      generalize i.wo = x4 at d4
      have gz := hr.lt
      have g0 := hr.cell t hlt
      have g1 := hr.free t
      have HRA := Lib.hid (fun o : Obj => show Row (R.alloc o) g 3 F.length (fun j => .int .i64 (sqK F t j)) from hr.next ((Below.refl _ _).alloc (Nat.le_refl _) _))
      clear hi hx0 hr hb
      go_wp2_with fail
      have HX2 : Hid (Row ((R.setCell ⟨g, t, none⟩ (.int .i64 x0)).alloc (.cells #[.int .i64 x0, .int .i64 x1, .int .i64 x2, .int .i64 x3, .int .i64 x4] 24)) g 3 F.length (fun j => .int .i64 (sqK F (t + 1) j))) := by
        refine Row.congr ((HR2.out.set_ t hlt (.int .i64 x0)).next ((Below.refl _ _).alloc (Nat.le_refl _) _)) fun j hj => ?_
        show (if j = t then Value.int .i64 x0 else .int .i64 (sqK F t j)) = .int .i64 (sqK F (t + 1) j)
        unfold sqK
        by_cases h1 : j = t
        · subst h1
          rw [if_pos rfl, if_pos (by omega), HX.out]
          rfl
        · rw [if_neg h1]
          by_cases h2 : j < t
          · rw [if_pos h2, if_pos (by omega)]
          · rw [if_neg h2, if_neg (by omega)]
      have HB3 : Hid (Below w.heap.size w ((R.setCell ⟨g, t, none⟩ (.int .i64 x0)).alloc (.cells #[.int .i64 x0, .int .i64 x1, .int .i64 x2, .int .i64 x3, .int .i64 x4] 24))) := by
        have h1 : Below w.heap.size w (R.setCell ⟨g, t, none⟩ (.int .i64 x0)) := HB2.out.setCell (p := ⟨g, t, none⟩) (by rw [HG.out]; exact Nat.le_refl _) _
        exact h1.alloc h1.size _
      exact ⟨⟨t + 1, by omega, by go_num, HX2.out, HB3.out⟩, by simp [intOf]; omega⟩
    · have hlt2 : ¬ (t : Int) < F.length := by omega
      have htl : t = F.length := by omega
      have HX := Lib.hid (show Mine R w.heap.size (some ⟨g, 0, none⟩) F.length (F.map (·.sq)) by
        refine ⟨by simp, by simp only [maxLen]; omega, (fun e => by cases e), fun hn => ⟨g, 0, rfl, by rw [HG.out]; exact Nat.le_refl _, hr.lt, fun j s hj => ⟨?_, hr.free _⟩⟩⟩
        have hjl := get_lt hj
        rw [List.length_map] at hjl
        rw [Nat.zero_add, hr.cell j hjl]
        rw [List.getElem?_map] at hj
        show some (Value.int .i64 (sqK F t j)) = _
        unfold sqK
        rw [if_pos (by omega), hj]
        rfl)
      clear htl hr hb
      go_wp2_with fail
      go_ret
      exact ⟨_, _, rfl, HX.out, HB2.out⟩

set_option maxHeartbeats 2000000 in
theorem prefixO_any (A : Option Addr) (c : Nat) (Q : List (List IncR)) (B : Option Addr) (d : Nat) (S : List Int) (w : World) (hQ : QArr w (Lt w.heap.size) A c Q) (hS : SArr w (Lt w.heap.size) B d S) (hf : Q.flatten.length ≤ 4096) (hs4 : S.length ≤ 1048576) :
    Calls Try.prog 22 #[.slice A Q.length c, .slice B S.length d] w (IffOf (PreP Q.flatten S) w) := by
  have hal := allO_any A c Q w hQ hf
  generalize Q.flatten = F at hal hf ⊢
  have HS := Lib.hid hS
  have hd1 := hS.1
  have hd2 := hS.2.1
  simp only [maxLen] at hd2
  clear hS hQ
  go_enter Try.func22, Try.ntmps22
  go_wp2_with fail
  refine hal.mono ?_
  rintro e V ⟨C, b, rfl, hl, hb⟩
  have HV := Lib.hid hb
  have HSV := Lib.hid (HS.out.next hb)
  have HF := Lib.hid hl.lt
  have hm := hl.2.1
  have hm' := hl.1
  simp only [maxLen] at hm
  clear hl HS hb hal
  by_cases hlen : S.length ≤ F.length
  · have hlz : ¬ ((F.length : Int) < S.length) := by omega
    have hlz2 : 0 ≤ (S.length : Int) ∧ (S.length : Int) ≤ b := by omega
    have HFT := Lib.hid (HF.out.take S.length)
    have hT : (F.take S.length).length = S.length := by simp; omega
    have HP := Lib.hid (pre_srt hlen)
    go_wp2_with fail
    refine (sorted_any B d S V HSV.out hs4).mono ?_
    rintro e V1 ⟨C1, b1, rfl, hm1, hb1⟩
    have HM1 := Lib.hid hm1
    have HB1 := Lib.hid hb1
    have HS1 := Lib.hid (srt_length S)
    clear hm1 hb1
    go_wp2_with fail
    have hcm := compactN_any C1 b1 V.heap.size (srt S) V1 HM1.out HB1.out.size (by rw [HS1.out]; exact hs4)
    have hcl := Lib.compact_length_le (srt S)
    generalize Lib.compact (srt S) = CS at hcm HP hcl
    refine hcm.mono ?_
    rintro e V2 ⟨rfl, hm2, hb2⟩
    have HM2 := Lib.hid hm2
    have HB2 := Lib.hid (HB1.out.trans hb2)
    have HCL := Lib.hid (show CS.length ≤ 1048576 from Nat.le_trans hcl (by rw [HS1.out]; exact hs4))
    have HFT2 := Lib.hid (HFT.out.next HB2.out)
    clear hm2 hb2 HB1 HM1 hcm hcl
    go_wp2_with fail
    have hsq := seqsOf_any C b (F.take S.length) V2 HFT2.out (by rw [hT]; omega)
    rw [hT] at hsq
    refine hsq.mono ?_
    unfold OwnOf
    rw [List.length_map, hT]
    rintro e V3 ⟨C3, b3, rfl, hm3, hb3⟩
    have hT2 : (firstS F S.length).length = S.length := by simp [firstS]; omega
    rw [show (F.take S.length).map (·.sq) = firstS F S.length from rfl] at hm3
    generalize firstS F S.length = T at hm3 hT2 HP
    have HM3 := Lib.hid hm3
    have HB3 := Lib.hid (below_next HB2.out (Nat.le_refl _) hb3)
    have HM2' := Lib.hid (HM2.out.next hb3)
    have HT2 := Lib.hid hT2
    clear hm3 hb3 HM2 hT2
    go_wp2_with fail
    have hso := sorted_any C3 b3 T V3 HM3.out.sarr (by rw [HT2.out]; exact hs4)
    rw [HT2.out] at hso
    refine hso.mono ?_
    rintro e V4 ⟨C4, b4, rfl, hm4, hb4⟩
    have HM4 := Lib.hid hm4
    have HB4 := Lib.hid (below_next HB3.out (Nat.le_refl _) hb4)
    have HM2'' := Lib.hid (HM2'.out.next hb4)
    have HST := Lib.hid (show (srt T).length ≤ 1048576 by rw [srt_length, HT2.out]; exact hs4)
    clear hm4 hb4 HM2' HM3 hso
    go_wp2_with fail
    refine (equalN_any C1 C4 b1 b4 CS (srt T) V4 HM2''.out.sarr HM4.out.sarr HCL.out HST.out).mono ?_
    rintro e V5 ⟨bb, rfl, hiff, hb5⟩
    have HI := Lib.hid (hiff.trans HP.out)
    have HB5 := Lib.hid (below_next HV.out (Nat.le_refl _) (below_next HB4.out (Nat.le_refl _) hb5))
    clear hiff hb5
    go_wp2_with fail
    go_ret
    exact ⟨bb, rfl, HI.out, HB5.out⟩
  · have hlz : (F.length : Int) < S.length := by omega
    go_wp2_with fail
    go_ret
    exact ⟨false, rfl, iff_no (fun h => hlen h.1), HV.out⟩
end Go.Proofs.Ytlafkkekfkamoaa
