/-
  The walk of BeltFrames.
-/
import Derived.Test.YtkknmphigpcjjaaQfrm
import Derived.Test.YtkknmphigpcjjaaQref
import Derived.Test.YtkknmphigpcjjaaQaw
import Derived.Deep.RegionHeld3
namespace Go.Proofs.Ytkknmphigpcjjaa
open Go.RowKit
set_option maxRecDepth 100000
set_option linter.unusedVariables false

theorem wordsN_at (A : Option Addr) (c n : Nat) (Q : List (List IncR)) (w : World) (z : Int) (hQ : QArr w (Lt w.heap.size) A c Q) (h1 : n = Q.length) (h2 : wrdQ Q = z) :
    Calls Try.prog 18 #[.slice A n c] w fun e w' => e = .returned (.int .i64 z) ∧ Below w.heap.size w w' := by
  subst h1 h2
  exact words_any A c Q w hQ
theorem beltValid_at (s : Int) (A A' : Option Addr) (nw c n c' : Nat) (wd : Nat → Int) (F : Nat → Fr) (Al : Option Addr) (cl m : Nat) (Q : List (List IncR)) (w : World) (hA : Arr w w.heap.size A nw c wd) (hT : Tab w w.heap.size A' n c' F)
    (hQ : QArr w (Lt w.heap.size) Al cl Q) (h1 : m = Q.length) :
    Calls Try.prog 16 #[.agg #[.int .i64 s, .slice A nw c, .slice A' n c'], .slice Al m cl] w (IffOf (ValQ s nw wd n F Q) w) := by
  subst h1
  exact beltValid_any s A A' nw c n c' wd F Al cl Q w hA hT hQ
theorem largest_at (s : Int) (V1 V2 : Value) (A : Option Addr) (c m : Nat) (Q : List (List IncR)) (w : World) (z : Int) (hQ : QArr w (Lt w.heap.size) A c Q) (h1 : m = Q.length) (h2 : lgQ s Q = z) :
    Calls Try.prog 20 #[.agg #[.int .i64 s, V1, V2], .slice A m c] w fun e w' => e = .returned (.int .i64 z) ∧ Below w.heap.size w w' := by
  subst h1 h2
  exact largest_any s V1 V2 A c Q w hQ
theorem queue_at (Al : Option Addr) (cl m : Nat) (I : List IncR) (w : World) (hL : LArr w (Lt w.heap.size) Al cl I) (hI : ∀ i ∈ I, 0 ≤ i.bt ∧ i.bt < 3) (hn : I.length ≤ 400) (h1 : m = I.length) :
    Calls Try.prog 11 #[.slice Al m cl, .int .i64 3] w (GivesBelts (qOf I) w) := by
  subst h1
  exact queue_any Al cl I w hL hI hn
theorem bits_k {k : Nat} (h0 : 3 ≤ k) (h1 : k ≤ 4) : IntKind.u64.wrap (k : Int) = k ∧ (k : Int).toNat = k ∧ IntKind.i64.wrap (2 ^ k) = ((2 ^ k : Nat) : Int) := by
  rcases (by omega : k = 3 ∨ k = 4) with rfl | rfl <;> decide

set_option maxHeartbeats 8000000 in
theorem walkLFrames (Al : Option Addr) (nl cl : Nat) (w : World) (hL : ListP w w.heap.size Al nl cl) :
    Calls Try.prog 5 #[.slice Al nl cl] w fun e w' => e = .returned (.bool true) ∧ Below w.heap.size w w' := by
  have HL := Lib.hid hL
  clear hL
  go_enter Try.func5, Try.ntmps5
  go_wp2_with fail
  refine (deck_any Al nl cl w HL.out).mono ?_
  rintro e U2 ⟨rfl, hd, hb, hz⟩
  have HDK := Lib.hid hd
  have HBU2 := Lib.hid hb
  clear hd hb
  go_wp2_with fail
  refine (spaceY_any w.heap.size U2 HDK.out).mono ?_
  rintro e U3 ⟨K, m, B, d, gb, d', wd, F, L, rfl, kk0, kk1, m0, m1, hoA, hoT, ⟨hvp, how, hu⟩, ⟨_, I, BI', hBI, hLR, hAll, _, hcov⟩, hG⟩
  have HBU3 := Lib.hid (below_turn HBU2.out hG (by omega))
  obtain ⟨mk, hmk⟩ : ∃ mk, mk = m * 2 ^ K := ⟨_, rfl⟩
  rw [← hmk] at hoA hvp ⊢
  obtain ⟨V, hV⟩ : ∃ V, V = U3.alloc (.cells #[.int .i64 K, .slice B mk d, .slice (some ⟨gb, 0, none⟩) m d'] 25) := ⟨_, rfl⟩
  have hbv : Below U3.heap.size U3 V := by rw [hV]; exact (Below.refl _ _).alloc (Nat.le_refl _) _
  obtain ⟨SB, hSB⟩ : ∃ b, b = U3.heap.size := ⟨_, rfl⟩
  have BY := Lib.hid (show Blk V SB 25 #[.int .i64 K, .slice B mk d, .slice (some ⟨gb, 0, none⟩) m d'] by rw [hV, hSB]; exact Blk.new _ _ _)
  have HBV := Lib.hid (below_next HBU3.out (Nat.le_refl _) hbv)
  have HSA := Lib.hid (hoA.arr.next hbv)
  have HST := Lib.hid (hoT.tab.next hbv)
  obtain ⟨LA, LC, hLe, hla⟩ := larr_of hLR.1
  subst hLe
  have HLA := Lib.hid (hla.lt.next hbv)
  have hI17 := allP_len hAll
  -- the numbers
  have hsnd := made_snd hAll hmk hcov
  have hbel := hsnd.1
  have hJ := bel_mem hbel
  have hown := (snd_iff hvp.fv hbel).1 hsnd
  obtain ⟨W, hW⟩ : ∃ W, W = sumW (qOf I).flatten := ⟨_, rfl⟩
  obtain ⟨us, hus⟩ : ∃ us, us = ownS K (qOf I).flatten := ⟨_, rfl⟩
  obtain ⟨h1, h2⟩ := own_words (k := K) (qOf I).flatten (fun i hi => (hJ i hi).1)
  have htot := qOf_total (allP_belts hAll)
  rw [← hW, ← hus] at h1 h2
  rw [htot] at h2
  have hun : us ≤ m := by rw [hus, ← hown]; exact cntU_le F m
  have h2K : 2 ^ K ≤ 16 := by rcases (by omega : K = 3 ∨ K = 4) with rfl | rfl <;> decide
  have hup : us * 2 ^ K ≤ 10 * 16 := Nat.mul_le_mul (by omega) h2K
  have hwq : wrdQ (qOf I) = (W : Int) := by rw [hW]; exact wrdQ_sum (fun i hi => by have := (hJ i hi).1; omega) (by rw [← hW]; omega)
  have hlg : lgQ K (qOf I) ≤ (us : Int) := by
    rw [hus]
    refine lgQ_le fun i hi => ?_
    obtain ⟨h3, ⟨_, _, _, _, W', e, h4, _⟩, _⟩ := hJ i hi
    have : mk ≤ 16384 := by rw [hmk]; exact prod_le (by omega) (by omega)
    rw [e, ceilZ_nat (by omega) (by omega), Int.toNat_natCast]
  have husd : m - cntP (owB F (-1)) m = us := by have := cntU_own F m; omega
  have HVQ := Lib.hid (show ValQ K mk wd m F (qOf I) from ⟨validB_yes hvp, by rw [Int.toNat_natCast]; exact hsnd⟩)
  have HWQ := Lib.hid hwq
  have HUSD := Lib.hid husd
  have HALL := Lib.hid hAll
  obtain ⟨lg, hlgd⟩ : ∃ z, lgQ K (qOf I) = z := ⟨_, rfl⟩
  rw [hlgd] at hlg
  have HLG := Lib.hid hlgd
  obtain ⟨li, hli⟩ : ∃ x, x = I.length := ⟨_, rfl⟩
  rw [← hli] at h2 hI17 ⊢
  have HLI := Lib.hid hli
  have HVV := Lib.hid hV
  have HSB := Lib.hid hSB
  clear hV hbv hG HBU2 HDK hz hoA hoT hmk hvp how hu hLR hAll hBI hli hcov hsnd hbel hJ hown hwq husd hlgd hla hW hus htot hSB
  go_wp2_with fail
  rw [← HVV.out, ← HSB.out]
  refine (queue_at LA LC li I V HLA.out (allP_belts HALL.out) (by have := HLI.out; omega) HLI.out).mono ?_
  rintro e V1 ⟨v, rfl, hr, _, hb⟩
  obtain ⟨QA, QC, rfl, hqa⟩ := hr.qarr
  rw [qOf_len]
  have BY1 := Lib.hid (BY.out.next hb)
  have HB1 : Hid (Below w.heap.size w V1) := below_next HBV.out (Nat.le_refl _) hb
  have HSA1 := Lib.hid (HSA.out.next hb)
  have HST1 := Lib.hid (HST.out.next hb)
  have HQ1 := Lib.hid hqa.lt
  clear hr hqa hb
  have p0 := BY1.out.cell 0
  have p1 := BY1.out.cell 1
  have p2 := BY1.out.cell 2
  simp at p0 p1 p2
  have zs : SB < V1.heap.size := BY1.out.lt
  obtain ⟨b1, b2, b3⟩ := bits_k kk0 kk1
  have HST1D : Hid (Tab V1.drew V1.drew.heap.size (some ⟨gb, 0, none⟩) m d' F) := Lib.hid (show Tab V1 V1.heap.size _ _ _ _ from HST1.out)
  go_wp2_with fail
  go_region_held3 (fun w' => w'.cell? ⟨SB, 0, none⟩ = some (.int .i64 K) ∧ w'.cell? ⟨SB, 1, none⟩ = some (.slice B mk d) ∧ w'.cell? ⟨SB, 2, none⟩ = some (.slice (some ⟨gb, 0, none⟩) m d'))
    (first | (with_reducible exact ⟨p0, p1, p2⟩) | (with_reducible exact ⟨q0, q1, q2⟩) | exact ⟨p0, p1, p2⟩)
    (first | (go_at_call 31; refine (refUsed_any K (.slice B mk d) (some ⟨gb, 0, none⟩) m d' F _ HST1D.out (by omega)).mono ?_; rintro e V2 ⟨rfl, hb⟩; rw [HUSD.out]; have q0 := (hb.cell (p := ⟨SB, 0, none⟩) zs).trans p0; have q1 := (hb.cell (p := ⟨SB, 1, none⟩) zs).trans p1; have q2 := (hb.cell (p := ⟨SB, 2, none⟩) zs).trans p2))
  all_goals
    obtain ⟨P, hP⟩ : ∃ P : Nat, P = 2 ^ K := ⟨_, rfl⟩
    have hPc : P = 8 ∨ P = 16 := by rcases (by omega : K = 3 ∨ K = 4) with rfl | rfl <;> omega
    have hPI : (2 : Int) ^ K = (P : Int) := by rw [hP]; simp
    rw [hPI]
    rw [← hP] at h1 h2
    have hli2 : li ≤ 17 := hI17
    have hs1 : IntKind.i64.wrap ((us : Int) * (P : Int)) = (us : Int) * (P : Int) := by rcases hPc with rfl | rfl <;> exact IntWalk.i64_in _ (by omega)
    have hc1 : (W : Int) ≤ (us : Int) * (P : Int) := by rcases hPc with rfl | rfl <;> omega
    have hs2 : IntKind.i64.wrap ((us : Int) - (li : Int)) = (us : Int) - (li : Int) := IntWalk.i64_in _ (by omega)
    have hs3 : IntKind.i64.wrap (((us : Int) - (li : Int)) * (P : Int)) = ((us : Int) - (li : Int)) * (P : Int) := by rcases hPc with rfl | rfl <;> exact IntWalk.i64_in _ (by omega)
    have hs4 : IntKind.i64.wrap (((us : Int) - (li : Int)) * (P : Int) + (li : Int)) = ((us : Int) - (li : Int)) * (P : Int) + (li : Int) := by rcases hPc with rfl | rfl <;> exact IntWalk.i64_in _ (by omega)
    have hc2 : ((us : Int) - (li : Int)) * (P : Int) + (li : Int) ≤ (W : Int) := by rcases hPc with rfl | rfl <;> omega
    have HB2 : Hid (Below w.heap.size w V2) := below_next HB1.out.drew (Nat.le_refl _) hb
    have BY2 := BY1.out.next' hb
    have HSA2 := Lib.hid ((show Arr V1.drew V1.drew.heap.size B mk d wd from HSA1.out).next hb)
    have HST2 := Lib.hid (HST1D.out.next hb)
    have HQ2 := Lib.hid (QArr.next (show QArr V1.drew (Lt V1.drew.heap.size) QA QC (qOf I) from HQ1.out) hb)
    clear hb p0 p1 p2 q0 q1 q2 zs hP hPc hPI h1 h2 hup hun h2K b1 b2 b3 HST1D
    go_wp2_with fail
    refine (wordsN_at QA QC 3 (qOf I) V2 W HQ2.out rfl HWQ.out).mono ?_
    rintro e V3 ⟨rfl, hb⟩
    have BY3 := BY2.next hb
    have p0 := BY3.cell 0
    have p1 := BY3.cell 1
    have p2 := BY3.cell 2
    simp at p0 p1 p2
    have zs : SB < V3.heap.size := BY3.lt
    have HB3 : Hid (Below w.heap.size w V3) := below_next HB2.out (Nat.le_refl _) hb
    have HSA3 := Lib.hid (HSA2.out.next hb)
    have HST3 := Lib.hid (HST2.out.next hb)
    have HQ3 := Lib.hid (HQ2.out.next hb)
    clear hb BY2
    go_wp2_with fail
    refine (beltValid_at K B (some ⟨gb, 0, none⟩) mk d m d' wd F QA QC 3 (qOf I) V3 HSA3.out HST3.out HQ3.out rfl).mono ?_
    rintro e V4 ⟨r, rfl, hr, hb⟩
    have hrt : r = true := hr.2 HVQ.out
    subst hrt
    have BY4 := BY3.next hb
    have HB4 : Hid (Below w.heap.size w V4) := below_next HB3.out (Nat.le_refl _) hb
    have HQ4 := Lib.hid (HQ3.out.next hb)
    clear hr hb p0 p1 p2 zs BY3
    have p0 := BY4.cell 0
    have p1 := BY4.cell 1
    have p2 := BY4.cell 2
    simp at p0 p1 p2
    have zs : SB < V4.heap.size := BY4.lt
    clear BY4
    go_wp2_with fail
    refine (largest_at K (.slice B mk d) (.slice (some ⟨gb, 0, none⟩) m d') QA QC 3 (qOf I) V4 lg HQ4.out rfl HLG.out).mono ?_
    rintro e V5 ⟨rfl, hb⟩
    have HB5 : Hid (Below w.heap.size w V5) := below_next HB4.out (Nat.le_refl _) hb
    clear hb p0 p1 p2 zs
    go_wp2_with fail
    refine (awake11_any V5).mono ?_
    rintro e V6 ⟨rfl, hb⟩
    have HB6 : Hid (Below w.heap.size w V6) := below_next HB5.out (Nat.le_refl _) hb
    clear hb
    go_wp2
    go_ret
    exact ⟨rfl, HB6.out⟩
end Go.Proofs.Ytkknmphigpcjjaa
