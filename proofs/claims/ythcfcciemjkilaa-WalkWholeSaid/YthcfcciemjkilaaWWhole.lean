/-
  The walk of WalkWhole. (Made by mkwlk-s10.py.)
-/
import Derived.Test.YthcfcciemjkilaaWaw
import Derived.Test.YthcfcciemjkilaaGvp
import Derived.Deep.RegionHeld3
import Derived.Deep.DeepCutAuto
import Derived.Deep.CutBlock
namespace Go.Proofs.Ythcfcciemjkilaa
open Go.RowKit
set_option maxRecDepth 100000
set_option linter.unusedVariables false

/-- How many of the addresses are below a. -/
def hA (l : List Nat) (a : Int) : Nat := (l.filter fun (x : Nat) => decide ((x : Int) < a)).length
theorem memB_cons (x : Nat) (l : List Nat) (a : Int) : memB (x :: l) a = (decide ((x : Int) = a) || memB l a) := by
  rw [Bool.eq_iff_iff, Bool.or_eq_true, decide_eq_true_iff]
  unfold memB
  rw [decide_eq_true_iff, decide_eq_true_iff]
  constructor
  · rintro ⟨y, hy, e⟩
    rcases List.mem_cons.1 hy with rfl | h
    · exact .inl e
    · exact .inr ⟨y, h, e⟩
  · rintro (h | ⟨y, hy, e⟩)
    · exact ⟨x, List.mem_cons_self, h⟩
    · exact ⟨y, List.mem_cons_of_mem _ hy, e⟩
theorem hA_step : ∀ (l : List Nat) (a : Int), l.Nodup → hA l (a + 1) = hA l a + (if memB l a = true then 1 else 0)
  | [], a, _ => by simp [hA, memB]
  | x :: l, a, h => by
    have hx := (List.nodup_cons.1 h).1
    have ih := hA_step l a (List.nodup_cons.1 h).2
    have e1 : ∀ b : Int, hA (x :: l) b = (if (x : Int) < b then 1 else 0) + hA l b := fun b => by
      unfold hA
      rw [List.filter_cons]
      by_cases hb : (x : Int) < b
      · rw [if_pos (decide_eq_true hb), if_pos hb, List.length_cons]; omega
      · rw [if_neg (by simpa using hb), if_neg hb]; omega
    rw [e1, e1, ih, memB_cons]
    by_cases e : (x : Int) = a
    · have hm : memB l a = false := by
        cases hmb : memB l a
        · rfl
        · unfold memB at hmb
          rw [decide_eq_true_iff] at hmb
          obtain ⟨y, hy, hye⟩ := hmb
          obtain rfl : y = x := by omega
          exact absurd hy hx
      rw [hm, if_pos (show (x : Int) < a + 1 by omega), if_neg (show ¬ (x : Int) < a by omega), decide_eq_true e]
      simp
      omega
    · rw [decide_eq_false e, Bool.false_or]
      by_cases h2 : (x : Int) < a
      · rw [if_pos (show (x : Int) < a + 1 by omega), if_pos h2]; omega
      · rw [if_neg (show ¬ (x : Int) < a + 1 by omega), if_neg h2]; omega
theorem hA_low (l : List Nat) {a : Int} (h : a ≤ 0) : hA l a = 0 := by
  unfold hA
  rw [List.length_eq_zero_iff, List.filter_eq_nil_iff]
  intro x _
  simp
  omega
theorem hA_high {l : List Nat} {a : Int} (h : ∀ x ∈ l, ((x : Nat) : Int) < a) : hA l a = l.length := by
  unfold hA
  rw [List.filter_eq_self.2]
  intro x hx
  exact decide_eq_true (h x hx)
theorem hA_le (l : List Nat) (a : Int) : hA l a ≤ l.length := List.length_filter_le _ _

set_option maxHeartbeats 40000000 in
theorem walkWWhole (Al : Option Addr) (nl cl : Nat) (which : Int) (w : World) (hL : ListP w w.heap.size Al nl cl) (which0 : -9223372036854775808 ≤ which) (which1 : which ≤ 9223372036854775807) :
    Calls Try.prog 4 #[.slice Al nl cl, .int .i64 which] w fun e w' => e = .returned (.bool true) ∧ Below w.heap.size w w' := by
  have HL := Lib.hid hL
  clear hL
  go_enter Try.func4, Try.ntmps4
  go_wp2_with fail
  refine (deck_any Al nl cl w HL.out).mono ?_
  rintro e U2 ⟨rfl, hd, hb, hz⟩
  have HDK := Lib.hid hd
  have HBU2 := Lib.hid hb
  clear hd hb
  go_wp2_with fail
  refine (spaceX_any w.heap.size U2 HDK.out).mono ?_
  rintro e U3 ⟨K, m, B, d, gb, d', wd, F, L, rfl, kk0, kk1, m0, m1, hoA, hoT, ⟨hvp, how, hu⟩, ⟨_, I, BI', hBI, hLR, hAll, hRun⟩, hG⟩
  have HBU3 := Lib.hid (below_turn HBU2.out hG (by omega))
  have HVP := Lib.hid hvp
  have HU64 := Lib.hid hu
  have HALL := Lib.hid hAll
  have HRUN := Lib.hid hRun
  have hmk0 : 0 < m * 2 ^ K := Nat.mul_pos (by omega) (Nat.two_pow_pos K)
  have hmk1 : m * 2 ^ K ≤ 16384 := prod_le (by omega) (by omega)
  obtain ⟨mk, hmk⟩ : ∃ mk, mk = m * 2 ^ K := ⟨_, rfl⟩
  rw [← hmk] at hoA HVP HU64 hmk0 hmk1 ⊢
  have HMK := Lib.hid hmk
  obtain ⟨V, hV⟩ : ∃ V, V = U3.alloc (.cells #[.int .i64 K, .slice B mk d, .slice (some ⟨gb, 0, none⟩) m d'] 25) := ⟨_, rfl⟩
  have hbv : Below U3.heap.size U3 V := by rw [hV]; exact (Below.refl _ _).alloc (Nat.le_refl _) _
  obtain ⟨SB, hSB⟩ : ∃ b, b = U3.heap.size := ⟨_, rfl⟩
  have BY := Lib.hid (show Blk V SB 25 #[.int .i64 K, .slice B mk d, .slice (some ⟨gb, 0, none⟩) m d'] by rw [hV, hSB]; exact Blk.new _ _ _)
  have HBV := Lib.hid (below_next HBU3.out (Nat.le_refl _) hbv)
  have HSA := Lib.hid (hoA.arr.next hbv)
  have HST := Lib.hid (hoT.tab.next hbv)
  have HLV := Lib.hid (hLR.below hbv)
  have hI17 := allP_len hAll
  have HVV := Lib.hid hV
  have HSB := Lib.hid hSB
  obtain ⟨LA, LC, hLe, hlc⟩ := row_slice hLR.1
  subst hLe
  obtain ⟨li, hli⟩ : ∃ x, x = I.length := ⟨_, rfl⟩
  have HROW := Lib.hid (show ∀ t i, I[t]? = some i → ∃ g cap, Value.slice LA I.length LC = .slice (some ⟨g, 0, none⟩) I.length cap ∧ BI' ≤ g ∧ g < U3.heap.size ∧ g < V.heap.size ∧ V.cell? ⟨g, t * 5, none⟩ = some (.int .i64 i.sq) ∧ V.cell? ⟨g, t * 5 + 1, none⟩ = some (.int .i64 i.bt) ∧ V.cell? ⟨g, t * 5 + 2, none⟩ = some (.int .i64 i.fi) ∧ V.cell? ⟨g, t * 5 + 3, none⟩ = some (.int .i64 i.la) ∧ V.cell? ⟨g, t * 5 + 4, none⟩ = some (.int .i64 i.wo) from fun t i h => lrow_cells HLV.out h)
  have HLI := Lib.hid hli
  rw [← hli] at hI17 hlc ⊢
  clear hV hSB hbv hG HBU2 HDK hz hoA hoT hmk hvp how hu hLR hAll hRun hBI hli HLV
  by_cases hl0 : li = 0
  · subst hl0
    go_wp2_with (go_at_call 7; rw [← HVV.out]; refine (awake10_any _).mono ?_; rintro e w6 ⟨rfl, b6⟩; have HB6 := Lib.hid b6; clear b6)
    go_ret
    exact ⟨rfl, below_next HBV.out (Nat.le_refl _) HB6.out⟩
  have hlb : ((li : Int) == 0) = false := by simp; omega
  have hmod := Int.emod_nonneg which (show (li : Int) ≠ 0 by omega)
  have hmod2 := Int.emod_lt_of_pos which (show 0 < (li : Int) by omega)
  obtain ⟨z, hz⟩ : ∃ z : Nat, which % (li : Int) = z := ⟨(which % (li : Int)).toNat, by omega⟩
  rw [hz] at hmod hmod2
  have HZ := Lib.hid hz
  clear hz hl0
  have hzl : z < I.length := by rw [← HLI.out]; omega
  obtain ⟨g, cap, hE, _, _, hg, x0, x1, x2, x3, x4⟩ := HROW.out z I[z] (List.getElem?_eq_getElem hzl)
  injection hE with hE1 _ hE2
  subst hE1
  obtain ⟨hinc, hwo, _⟩ := HALL.out z I[z] (List.getElem?_eq_getElem hzl)
  have hrun := HRUN.out z I[z] (List.getElem?_eq_getElem hzl)
  obtain ⟨sq, hsq⟩ : ∃ x, x = I[z].sq := ⟨_, rfl⟩
  obtain ⟨bt, hbt⟩ : ∃ x, x = I[z].bt := ⟨_, rfl⟩
  obtain ⟨fi, hfi⟩ : ∃ x, x = I[z].fi := ⟨_, rfl⟩
  obtain ⟨la, hla⟩ : ∃ x, x = I[z].la := ⟨_, rfl⟩
  obtain ⟨wo, hwo'⟩ : ∃ x, x = I[z].wo := ⟨_, rfl⟩
  rw [← hsq] at hinc x0
  rw [← hbt] at hinc x1
  rw [← hfi] at hinc x2 hrun
  rw [← hla] at hinc x3
  rw [← hwo'] at hinc hwo x4 hrun
  have HWO := Lib.hid hwo
  have hz2 : 0 ≤ (z : Int) ∧ (z : Int) < li := by omega
  have HFIT := Lib.hid (inc_fits hinc hwo HMK.out).1
  obtain ⟨W, hW⟩ : ∃ W : Nat, wo = W := ⟨wo.toNat, by omega⟩
  have hrun2 := hrun
  rw [hW] at hrun2
  obtain ⟨j, hh, hp, hob⟩ := hrun2.objs
  have hox : ObjsX K mk wd m F sq bt fi la wo (lstN K wd F fi j) 0 := .inr ⟨incB_mk HVP.out (by rw [Int.toNat_natCast]; exact HFIT.out), by rw [hW, Int.toNat_natCast, Int.toNat_natCast]; exact hob⟩
  have HHD := Lib.hid hh
  have HPS := Lib.hid hp
  have HWW := Lib.hid hW
  obtain ⟨l, hl⟩ : ∃ l, l = lstN K wd F fi j := ⟨_, rfl⟩
  rw [← hl] at hox
  have HOX := Lib.hid hox
  have HLL := Lib.hid hl
  have hlen := objsX_small hox
  clear hsq hbt hfi hla hwo' hinc hwo HROW HALL HRUN hrun hrun2 hW hh hp hob hox hl
  obtain ⟨X, hX⟩ : ∃ X, X = V.alloc (.cells #[.int .i64 sq, .int .i64 bt, .int .i64 fi, .int .i64 la, .int .i64 wo] 27) := ⟨_, rfl⟩
  have hbx : Below V.heap.size V X := by rw [hX]; exact (Below.refl _ _).alloc (Nat.le_refl _) _
  obtain ⟨JB, hJB⟩ : ∃ b, b = V.heap.size := ⟨_, rfl⟩
  have BJ := Lib.hid (show Blk X JB 27 #[.int .i64 sq, .int .i64 bt, .int .i64 fi, .int .i64 la, .int .i64 wo] by rw [hX, hJB]; exact Blk.new _ _ _)
  have BY5 := Lib.hid (BY.out.next hbx)
  have HBX := Lib.hid (below_next HBV.out (Nat.le_refl _) hbx)
  have HSA5 := Lib.hid (HSA.out.next hbx)
  have HST5 := Lib.hid (HST.out.next hbx)
  have HXX := Lib.hid hX
  have HJB := Lib.hid hJB
  clear hX hJB hbx BY HSA HST
  go_upto_region 5 with (go_at_call 10; rw [← HVV.out]; refine (mod_any which (li : Int) (by omega) (by omega) which0 which1 _).mono ?_; rintro e w' ⟨rfl, rfl⟩; rw [HZ.out])
  rw [← HXX.out]
  try rw [← HJB.out]
  try rw [← HSB.out]
  clear HXX HJB HSB HVV hlb hmod hmod2 hg x0 x1 x2 x3 x4 hz2
  have HND := Lib.hid (show l.Nodup ∧ ∀ x ∈ l, x < mk by
    obtain ⟨k', p, M, W', ek, _, _, hv', e1, h1, h2, h3, e2, h4, h5, h6, _⟩ := inc_chain9 (incB_mk (s := (K : Int)) HVP.out (by rw [Int.toNat_natCast]; exact HFIT.out)) HWO.out
    obtain rfl : K = k' := by omega
    have h7 := HWW.out
    have h8 := HPS.out
    have h9 := HLL.out
    rw [e1] at h8 h9
    rw [h9]
    exact lstN_nodup hv' h1 h2 h3 (by omega))
  have p0 := BY5.out.cell 0
  have p1 := BY5.out.cell 1
  have p2 := BY5.out.cell 2
  have pz := BY5.out.lt
  simp at p0 p1 p2
  have q0 := BJ.out.cell 0
  have q1 := BJ.out.cell 1
  have q2 := BJ.out.cell 2
  have q3 := BJ.out.cell 3
  have q4 := BJ.out.cell 4
  have qz := BJ.out.lt
  simp at q0 q1 q2 q3 q4
  have CO := objs10_of (s := (K : Int)) B (some ⟨gb, 0, none⟩) d d' X HSA5.out HST5.out HU64.out HOX.out
  go_wp2_with fail
  refine CO.mono ?_
  rintro e X1 ⟨A5, c5, rfl, hn5, hb5⟩
  have HN5 := Lib.hid hn5
  have BY6 := Lib.hid (BY5.out.next hb5)
  have BJ6 := Lib.hid (BJ.out.next hb5)
  have HSA6 := Lib.hid (HSA5.out.next hb5)
  have HST6 := Lib.hid (HST5.out.next hb5)
  have HB6 := Lib.hid (below_next HBX.out (Nat.le_refl _) hb5)
  clear hb5 hn5 CO BY5 BJ HSA5 HST5 HBX
  clear p0 p1 p2 pz
  clear q0 q1 q2 q3 q4 qz
  have p0 := BY6.out.cell 0
  have p1 := BY6.out.cell 1
  have p2 := BY6.out.cell 2
  have pz := BY6.out.lt
  simp at p0 p1 p2
  have q0 := BJ6.out.cell 0
  have q1 := BJ6.out.cell 1
  have q2 := BJ6.out.cell 2
  have q3 := BJ6.out.cell 3
  have q4 := BJ6.out.cell 4
  have qz := BJ6.out.lt
  simp at q0 q1 q2 q3 q4
  have CL := live10_of (s := (K : Int)) B (some ⟨gb, 0, none⟩) d d' X1 HSA6.out HST6.out HU64.out HOX.out
  rw [show liveN l 0 = l.length from if_pos rfl, show liveW wo 0 = wo from if_pos rfl] at CL
  go_wp2_with fail
  refine CL.mono ?_
  rintro e X2 ⟨rfl, hb6⟩
  have HN6 := Lib.hid (HN5.out.next hb6)
  have BY7 := Lib.hid (BY6.out.next hb6)
  have BJ7 := Lib.hid (BJ6.out.next hb6)
  have HSA7 := Lib.hid (HSA6.out.next hb6)
  have HST7 := Lib.hid (HST6.out.next hb6)
  have HB7 := Lib.hid (below_next HB6.out (Nat.le_refl _) hb6)
  clear hb6 CL BY6 BJ6 HSA6 HST6 HB6 HN5
  clear p0 p1 p2 pz
  clear q0 q1 q2 q3 q4 qz
  have q0 := BJ7.out.cell 0
  have q1 := BJ7.out.cell 1
  have q2 := BJ7.out.cell 2
  have q3 := BJ7.out.cell 3
  have q4 := BJ7.out.cell 4
  have qz := BJ7.out.lt
  simp at q0 q1 q2 q3 q4
  go_wp2_with fail
  clear q0 q1 q2 q3 q4 qz
  go_loopw [13, 14] (fun hv av wr => ∃ a : Int, -1 ≤ a ∧ a ≤ mk + 1 ∧ hv = .int .i64 (hA l a) ∧ av = .int .i64 a ∧ Below X2.heap.size X2 wr) (fun _ av _ => ((mk : Int) + 1 - intOf av).toNat)
  case atStart => exact ⟨-1, by omega, by omega, by rw [hA_low l (by decide)]; rfl, rfl, Below.refl _ _⟩
  case round =>
    obtain ⟨a, ha0, ha1, rfl, rfl, hb⟩ := hrel
    have BY8 := BY7.out.next hb
    have BJ8 := BJ7.out.next hb
    obtain ⟨h0, hh0⟩ : ∃ x, x = hA l a := ⟨_, rfl⟩
    have hh1 := hA_le l a
    rw [← hh0] at hh1 ⊢
    by_cases hlt : a ≤ mk
    · have hstep := hA_step l a HND.out.1
      rw [← hh0] at hstep
      have CH := holds10_of (s := (K : Int)) B (some ⟨gb, 0, none⟩) d d' a wr (HSA7.out.next hb) (HST7.out.next hb) HU64.out HOX.out
      obtain ⟨b, hbm⟩ : ∃ b, b = memB l a := ⟨_, rfl⟩
      rw [← hbm] at CH hstep
      have HB8 := Lib.hid hb
      have w1 : IntKind.i64.wrap (a + 1) = a + 1 := IntWalk.i64_in _ (by omega)
      have w2 : IntKind.i64.wrap ((h0 : Int) + 1) = h0 + 1 := IntWalk.i64_in _ (by omega)
      have HST8 := Lib.hid hstep
      clear hb hh0 hbm hstep
      have p0 := BY8.cell 0
      have p1 := BY8.cell 1
      have p2 := BY8.cell 2
      have pz := BY8.lt
      simp at p0 p1 p2
      have q0 := BJ8.cell 0
      have q1 := BJ8.cell 1
      have q2 := BJ8.cell 2
      have q3 := BJ8.cell 3
      have q4 := BJ8.cell 4
      have qz := BJ8.lt
      simp at q0 q1 q2 q3 q4
      clear BY8 BJ8
      go_wp2_with fail
      refine CH.mono ?_
      rintro e X3 ⟨rfl, hb3⟩
      have HB9 := Lib.hid (below_next HB8.out (Nat.le_refl _) hb3)
      clear hb3 CH
      cases b with
      | true =>
        go_wp2_with fail
        exact ⟨⟨a + 1, by omega, by omega, by rw [HST8.out]; simp, rfl, HB9.out⟩, by simp [intOf]; omega⟩
      | false =>
        go_wp2_with fail
        exact ⟨⟨a + 1, by omega, by omega, by rw [HST8.out]; simp, rfl, HB9.out⟩, by simp [intOf]; omega⟩
    · have e9 : h0 = l.length := by rw [hh0]; exact hA_high fun x hx => by have := HND.out.2 x hx; omega
      have HB8 := Lib.hid hb
      have HN8 := Lib.hid (HN6.out.next hb)
      have BY9 := Lib.hid BY8
      have BJ9 := Lib.hid BJ8
      have HSA9 := Lib.hid (HSA7.out.next hb)
      have HST9 := Lib.hid (HST7.out.next hb)
      have HBA := Lib.hid (below_next HB7.out (Nat.le_refl _) hb)
      clear hb hh0 hh1
      have p0 := BY8.cell 0
      have p1 := BY8.cell 1
      have p2 := BY8.cell 2
      have pz := BY8.lt
      simp at p0 p1 p2
      clear BY8 BJ8
      subst e9
      go_wp2_with fail
      clear p0 p1 p2 pz
      obtain ⟨Y0, hY0⟩ : ∃ Y, Y = wr := ⟨_, rfl⟩
      subst hY0
      go_loopw [16, 80] (fun _ iv wr => ∃ t : Nat, t ≤ l.length ∧ iv = .int .i64 t ∧ Below Y0.heap.size Y0 wr) (fun _ iv _ => l.length - (intOf iv).toNat)
      case atStart => exact ⟨0, Nat.zero_le _, rfl, Below.refl _ _⟩
      case round =>
        obtain ⟨t, ht, rfl, hb⟩ := hrel
        by_cases hlt2 : t < l.length
        · have hx : 0 ≤ (t : Int) ∧ (t : Int) < l.length := by omega
          obtain ⟨bb, o, rfl, hbb, hc1⟩ := HN8.out.at_ t hlt2
          have hc2 := (hb.cell (p := ⟨bb, o + t, none⟩) hbb).trans hc1
          have hbz : bb < wr.heap.size := Nat.lt_of_lt_of_le hbb hb.size
          obtain ⟨v, hv⟩ : ∃ v, v = numF l t := ⟨_, rfl⟩
          have hm : memB l v = true := memB_iff.2 ⟨t, hlt2, hv.symm⟩
          rw [← hv] at hc2
          have BY8 := BY9.out.next hb
          have BJ8 := BJ9.out.next hb
          have CH := holds10_of (s := (K : Int)) B (some ⟨gb, 0, none⟩) d d' v wr (HSA9.out.next hb) (HST9.out.next hb) HU64.out HOX.out
          rw [hm] at CH
          have HB8 := Lib.hid hb
          clear hb hv hm hc1
          have p0 := BY8.cell 0
          have p1 := BY8.cell 1
          have p2 := BY8.cell 2
          have pz := BY8.lt
          simp at p0 p1 p2
          have q0 := BJ8.cell 0
          have q1 := BJ8.cell 1
          have q2 := BJ8.cell 2
          have q3 := BJ8.cell 3
          have q4 := BJ8.cell 4
          have qz := BJ8.lt
          simp at q0 q1 q2 q3 q4
          clear BY8 BJ8
          go_wp2_with fail
          refine CH.mono ?_
          rintro e X3 ⟨rfl, hb3⟩
          have HB9 := Lib.hid (below_next HB8.out (Nat.le_refl _) hb3)
          clear hb3 CH hc2 hbz
          go_wp2_with fail
          exact ⟨⟨t + 1, by omega, by go_num, HB9.out⟩, by simp [intOf]; omega⟩
        · obtain rfl : t = l.length := by omega
          have hx : ¬ (l.length : Int) < l.length := by omega
          have HB8 := Lib.hid hb
          clear hb
          go_wp2_with fail
          go_ret
          exact ⟨by simp, below_next HBA.out (Nat.le_refl _) HB8.out⟩
end Go.Proofs.Ythcfcciemjkilaa
