/-
  The walk of OrderLists.
-/
import Derived.Test.YtlafkkekfkamoaaUAsc
import Derived.Test.YtlafkkekfkamoaaUSam
import Derived.Test.YtlafkkekfkamoaaQcop
namespace Go.Proofs.Ytlafkkekfkamoaa
open Go.RowKit
set_option maxRecDepth 100000
set_option linter.unusedVariables false

theorem refAll_at (A : Option Addr) (c n : Nat) (Q : List (List IncR)) (F : List IncR) (w : World) (hn : n = Q.length) (hF : F = Q.flatten) (hQ : QArr w (Lt w.heap.size) A c Q) (hf : F.length ≤ 4096) : Calls Try.prog 17 #[.slice A n c] w (AllOf F w) := by
  subst hn hF
  refine (refAll_any A c Q w hQ hf).mono ?_
  rintro e w' ⟨v, rfl, h, _, hb⟩
  obtain ⟨B, d, rfl, hl⟩ := larr_of h
  exact ⟨B, d, rfl, hl.lt, hb⟩
theorem refFirst_at (A : Option Addr) (c n : Nat) (Q : List (List IncR)) (F : List IncR) (w : World) (hn : n = Q.length) (hF : F = Q.flatten) (hQ : QArr w (Lt w.heap.size) A c Q) (hf : F.length ≤ 4096) : Calls Try.prog 19 #[.slice A n c] w (GivesI F.head? w) := by
  subst hn hF
  exact refFirst_any A c Q w hQ hf
theorem refPrefix_at (A : Option Addr) (c n : Nat) (Q : List (List IncR)) (F : List IncR) (B : Option Addr) (d k : Nat) (S : List Int) (w : World) (hn : n = Q.length) (hF : F = Q.flatten) (hk : k = S.length) (hQ : QArr w (Lt w.heap.size) A c Q) (hS : SArr w (Lt w.heap.size) B d S) (hf : F.length ≤ 4096) (hs4 : S.length ≤ 1048576) :
    Calls Try.prog 23 #[.slice A n c, .slice B k d] w (IffOf (PreP F S) w) := by
  subst hn hF hk
  exact refPrefix_any A c Q B d S w hQ hS hf hs4
/-- Belts behind one of two slices. -/
def TwoQ (W : World) (g : Nat) (t : Nat) : Prop := ∃ A n c Q, W.cell? ⟨g, t, none⟩ = some (.slice A n c) ∧ n = Q.length ∧ QArr W (Lt W.heap.size) A c Q ∧ Q.flatten.length ≤ 4096
/-- Numbers behind one of five slices. -/
def FiveS (W : World) (g : Nat) (t : Nat) : Prop := ∃ A n c S, W.cell? ⟨g, t, none⟩ = some (.slice A n c) ∧ n = S.length ∧ SArr W (Lt W.heap.size) A c S ∧ S.length ≤ 1000
theorem FiveS.next {W W' : World} {g t : Nat} (h : FiveS W g t) (hb : Below W.heap.size W W') : FiveS W' g t := by
  obtain ⟨A, n, c, S, h1, h2, h3, h4⟩ := h
  exact ⟨A, n, c, S, (hb.cell (cell_lt h1)).trans h1, h2, h3.next hb, h4⟩
theorem TwoQ.next {W W' : World} {g t : Nat} (h : TwoQ W g t) (hb : Below W.heap.size W W') : TwoQ W' g t := by
  obtain ⟨A, n, c, Q, h1, h2, h3, h4⟩ := h
  exact ⟨A, n, c, Q, (hb.cell (cell_lt h1)).trans h1, h2, h3.next hb, h4⟩

set_option maxHeartbeats 8000000 in
theorem walkLists (RA : Option Addr) (RC : Nat) (R : List (List IncR)) (Al : Option Addr) (nl cl : Nat) (SA : Option Addr) (SC : Nat) (SQ : List Int) (kz wz : Int) (w : World) (hR : QArr w (Lt w.heap.size) RA RC R) (hRl : ∀ q ∈ R, q.length ≤ 140737488355328) (hL : ListP w w.heap.size Al nl cl) (hSQ : SArr w (Lt w.heap.size) SA SC SQ)
    (k0 : -9223372036854775808 ≤ kz) (k1 : kz ≤ 9223372036854775807) (x0 : -9223372036854775808 ≤ wz) (x1 : wz ≤ 9223372036854775807) :
    Calls Try.prog 4 #[.slice RA R.length RC, .slice Al nl cl, .slice SA SQ.length SC, .int .i64 kz, .int .i64 wz] w fun e w' => e = .returned (.bool true) ∧ Below w.heap.size w w' := by
  obtain ⟨n0, hn0, hy0, hy1, hy2⟩ := info_parts int_info
  have HR0 := Lib.hid hR
  have HS0 := Lib.hid hSQ
  have HL := Lib.hid hL
  clear hR hSQ hL
  go_enter Try.func4, Try.ntmps4
  go_wp2_with fail
  refine (slight_any RA RC R w HR0.out hRl).mono ?_
  rintro e V0 ⟨r, rfl, hr, hb0⟩
  have HB0 := Lib.hid hb0
  have HRV := Lib.hid (HR0.out.next hb0)
  have HSV := Lib.hid (HS0.out.next hb0)
  have HL0 := Lib.hid (HL.out.next hb0)
  have HRL := Lib.hid hr
  clear hr hb0 HR0 HS0 HL hRl
  cases r with
  | false =>
    go_wp2_with fail
    refine (awake15_any _).mono ?_
    rintro e w2 ⟨rfl, hb⟩
    have HB5 := Lib.hid (below_next HB0.out (Nat.le_refl _) hb)
    clear hb
    go_wp2
    go_ret
    exact ⟨rfl, HB5.out⟩
  | true =>
    by_cases hsl : 40 < SQ.length
    · go_wp2_with fail
      refine (awake15_any _).mono ?_
      rintro e w2 ⟨rfl, hb⟩
      have HB5 := Lib.hid (below_next HB0.out (Nat.le_refl _) hb)
      clear hb
      go_wp2
      go_ret
      exact ⟨rfl, HB5.out⟩
    have HSL := Lib.hid (show SQ.length ≤ 40 by omega)
    have HRF := Lib.hid (show R.flatten.length ≤ 40 from (HRL.out rfl).2)
    clear HRL
    go_wp2_with fail
    refine (deck_any Al nl cl V0 HL0.out).mono ?_
    rintro e U2 ⟨rfl, hd, hb, hz⟩
    have HDK := Lib.hid hd
    have HBU2 := Lib.hid hb
    clear hd hb
    go_wp2_with fail
    refine (spaceY_any V0.heap.size U2 HDK.out).mono ?_
    rintro e U3 ⟨K, m, B, d, gb, d', wd, F, L, rfl, kk0, kk1, m0, m1, hoA, hoT, ⟨hvp, how, hu⟩, ⟨_, I, BI', hBI, hLR, hAll, _, hcov⟩, hG⟩
    have HBU3 := Lib.hid (below_turn HBU2.out hG (by omega))
    obtain ⟨mk, hmk⟩ : ∃ mk, mk = m * 2 ^ K := ⟨_, rfl⟩
    rw [← hmk] at hoA hvp ⊢
    obtain ⟨V, hV⟩ : ∃ V, V = U3.alloc (.cells #[.int .i64 K, .slice B mk d, .slice (some ⟨gb, 0, none⟩) m d'] 36) := ⟨_, rfl⟩
    have hbv : Below U3.heap.size U3 V := by rw [hV]; exact (Below.refl _ _).alloc (Nat.le_refl _) _
    obtain ⟨SB, hSB⟩ : ∃ b, b = U3.heap.size := ⟨_, rfl⟩
    have BY := Lib.hid (show Blk V SB 36 #[.int .i64 K, .slice B mk d, .slice (some ⟨gb, 0, none⟩) m d'] by rw [hV, hSB]; exact Blk.new _ _ _)
    have HBV := Lib.hid (below_next HBU3.out (Nat.le_refl _) hbv)
    have HST := Lib.hid (hoT.tab.next hbv)
    obtain ⟨LA, LC, hLe, hla⟩ := larr_of hLR.1
    subst hLe
    have HLA := Lib.hid (hla.lt.next hbv)
    have hI17 := allP_len hAll
    have HALL := Lib.hid hAll
    obtain ⟨li, hli⟩ : ∃ x, x = I.length := ⟨_, rfl⟩
    rw [← hli] at hI17 ⊢
    have HLI := Lib.hid hli
    have HVV := Lib.hid hV
    have HSB := Lib.hid hSB
    clear hV hbv hG HBU2 HDK hz hoA hoT hmk hvp how hu hLR hAll hBI hli hcov hla hSB
    go_wp2_with fail
    rw [← HVV.out, ← HSB.out]
    refine (queue_at LA LC li I V HLA.out (allP_belts HALL.out) (by have := HLI.out; omega) HLI.out).mono ?_
    rintro e V1 ⟨v, rfl, hr, _, hb⟩
    obtain ⟨QA, QC, rfl, hqa⟩ := hr.qarr
    rw [qOf_len]
    have BY1 := Lib.hid (BY.out.next hb)
    have HB1 : Hid (Below V0.heap.size V0 V1) := below_next HBV.out (Nat.le_refl _) hb
    have HST1 := Lib.hid (HST.out.next hb)
    have HLA1 := Lib.hid (HLA.out.next hb)
    have HQ1 := Lib.hid hqa.lt
    have HTOT := Lib.hid (qOf_total (allP_belts HALL.out))
    obtain ⟨FL, hFL⟩ : ∃ FL, FL = (qOf I).flatten := ⟨_, rfl⟩
    have HFL := Lib.hid hFL
    clear hr hqa hb HVV BY HST HLA HL0 hFL
    go_wp2_with fail
    refine (refAll_at QA QC 3 (qOf I) FL V1 rfl HFL.out HQ1.out (by rw [HFL.out, HTOT.out, ← HLI.out]; omega)).mono ?_
    rintro e V2 ⟨FA, FC, rfl, hl, hb⟩
    have hlf : FL.length = li := by rw [HFL.out, HTOT.out, ← HLI.out]
    have HB2 := Lib.hid (below_next HB1.out (Nat.le_refl _) hb)
    have HQ2 := Lib.hid (HQ1.out.next hb)
    have HF2 := Lib.hid hl
    have hcap := hl.1
    have hcap2 := hl.2.1
    simp only [maxLen] at hcap2
    rw [hlf] at hcap ⊢
    have HLF := Lib.hid hlf
    have HR2 := Lib.hid (HRV.out.next HB2.out)
    have HS2 := Lib.hid (HSV.out.next HB2.out)
    obtain ⟨kk, hkk⟩ : ∃ kk : Nat, (kk : Int) = kz % ((li : Int) + 1) := ⟨(kz % ((li : Int) + 1)).toNat, by have := Int.emod_nonneg kz (show (li : Int) + 1 ≠ 0 by omega); omega⟩
    have hk3 : (kk : Int) < (li : Int) + 1 := by rw [hkk]; exact Int.emod_lt_of_pos _ (by omega)
    have hmk := fun W => mod_any kz ((li : Int) + 1) (by omega) (by omega) k0 k1 W
    rw [← hkk] at hmk
    have hkb : 0 ≤ (kk : Int) ∧ (kk : Int) ≤ FC := by omega
    have hsm : IntKind.i64.wrap ((li : Int) + 1) = (li : Int) + 1 := IntWalk.i64_in _ (by omega)
    clear hb hl HB1 HQ1 HLA1 BY1 HST1 hlf HRV HSV hkk hsl
    go_wp2_with fail
    refine (hmk _).mono ?_
    rintro e w1 ⟨rfl, rfl⟩
    go_wp2_with fail
    go_loopw [15, 54] (fun v i wr => ∃ (t : Nat) (S : List Int), t ≤ kk ∧ i = .int .i64 t ∧ S.length = t ∧ wr.ownsRow V2.heap.size 3 1 v t (numC S) ∧ Below V2.heap.size V2 wr) (fun _ i _ => kk - (intOf i).toNat)
    case atStart => exact ⟨0, [], by omega, rfl, rfl, World.ownsRow_nil _ _ _ _, Below.refl _ _⟩
    case round =>
      obtain ⟨t, S, ht, rfl, hsl, hrow, hb⟩ := hrel
      have HB := Lib.hid hb
      have HROW := Lib.hid hrow
      have HSLN := Lib.hid hsl
      clear hb hrow hsl
      by_cases hlt : t < kk
      · have hlt2 : 0 ≤ (t : Int) ∧ (t : Int) < kk := by omega
        obtain ⟨i, hi⟩ := nth_of (show t < FL.length by rw [HLF.out]; omega)
        obtain ⟨bl, ol, rfl, _, zl0, d0, d1, d2, d3, d4⟩ := (HF2.out.next HB.out).at_ hi
        generalize i.sq = i0 at *
        generalize i.bt = i1 at *
        generalize i.fi = i2 at *
        generalize i.la = i3 at *
        generalize i.wo = i4 at *
        obtain ⟨X, hX⟩ : ∃ X, X = wr.alloc (.cells #[.int .i64 i0, .int .i64 i1, .int .i64 i2, .int .i64 i3, .int .i64 i4] 24) := ⟨_, rfl⟩
        have hbx : Below wr.heap.size wr X := by rw [hX]; exact (Below.refl _ _).alloc (Nat.le_refl _) _
        have BI := (show Blk X wr.heap.size 24 #[.int .i64 i0, .int .i64 i1, .int .i64 i2, .int .i64 i3, .int .i64 i4] by rw [hX]; exact Blk.new _ _ _)
        obtain ⟨BX, hBX⟩ : ∃ b, b = wr.heap.size := ⟨_, rfl⟩
        rw [← hBX] at BI
        have b0 := BI.cell 0
        simp at b0
        have HBX := Lib.hid hBX
        have HXE := Lib.hid hX
        have HBB := Lib.hid (below_next HB.out (Nat.le_refl _) hbx)
        have hszx : V2.heap.size ≤ X.heap.size := HBB.out.size
        have HRX := Lib.hid (World.ownsRow.alloc (ownsRow_keep (w' := X) HROW.out fun g _ _ hl => hbx.block g hl) (.cells #[.int .i64 i0] 3))
        have hxs : X.heap.size = wr.heap.size + 1 := by rw [hX]; simp
        have HLIT := Lib.hid (show (X.alloc (.cells #[.int .i64 i0] 3)).ownsRow V2.heap.size 3 1 (.slice (some ⟨wr.heap.size + 1, 0, none⟩) 1 1) 1 (numC [i0]) from hxs ▸ ⟨rfl, .inr ⟨_, 1, _, rfl, hszx, heap_alloc_new X _, Nat.le_refl _, by simp [maxLen], rfl, rfl⟩⟩)
        have hrt : (X.alloc (.cells #[.int .i64 i0] 3)).ownsRow V2.heap.size 3 1 u15 S.length (numC S) := by rw [HSLN.out]; exact HRX.out
        obtain ⟨A1, c1, hv15, hs1⟩ := sarr_of hrt
        rw [HSLN.out] at hv15
        have HS1 := Lib.hid hs1
        have HM1 := Lib.hid (show 1 + t ≤ maxLen by simp only [maxLen]; omega)
        have HM2 := Lib.hid (show (1 + t) * 8 ≤ 140737488355328 by omega)
        have HBS := Lib.hid (show V2.heap.size ≤ (X.alloc (.cells #[.int .i64 i0] 3)).heap.size by simp; omega)
        have HBA := Lib.hid (HBB.out.alloc hszx (.cells #[.int .i64 i0] 3))
        subst hv15
        clear hi hX hBX hbx BI hrt hs1 HRX hxs
        go_wp2_with (at_builtin; rw [← HXE.out]; refine wpList_append_sarr _ rfl _ _ 31 rfl V2.heap.size 3 n0 _ 8 Try.underlying31 hn0 hy0 hy1 hy2 rfl (.slice (some ⟨wr.heap.size + 1, 0, none⟩) 1 1) 1 (numC [i0]) rfl HLIT.out A1 t c1 S _ rfl HSLN.out.symm HS1.out HM1.out HM2.out HBS.out ?_)
        intro v2 w2 hown2 hgr2
        have HBN : Hid (Below V2.heap.size V2 w2) := Lib.hid (HBA.out.grown hgr2 HBS.out (row_blk HLIT.out))
        have HRN := Lib.hid (show w2.ownsRow V2.heap.size 3 1 v2 (t + 1) (numC ([i0] ++ S)) by rw [numC_append, Nat.add_comm]; exact hown2)
        clear hown2 hgr2
        go_wp2_with fail
        exact ⟨⟨t + 1, [i0] ++ S, by omega, by go_num, by simp [HSLN.out], HRN.out, HBN.out⟩, by simp [intOf]; omega⟩
      · have hlt2 : ¬ (t : Int) < kk := by omega
        have hte : t = kk := by omega
        subst hte
        have hrt : wr.ownsRow V2.heap.size 3 1 u15 S.length (numC S) := by rw [HSLN.out]; exact HROW.out
        obtain ⟨A1, c1, hv15, hs1⟩ := sarr_of hrt
        rw [HSLN.out] at hv15
        subst hv15
        have HS1 := Lib.hid hs1.lt
        have HQP := Lib.hid (HQ2.out.next HB.out)
        have HFP := Lib.hid (HF2.out.next HB.out)
        have HRP := Lib.hid (HR2.out.next HB.out)
        have HSP := Lib.hid (HS2.out.next HB.out)
        have HBP := Lib.hid (below_next (below_next HB0.out (Nat.le_refl _) HB2.out) (Nat.le_refl _) HB.out)
        have HM1 := Lib.hid (show 0 + t ≤ maxLen by simp only [maxLen]; omega)
        have HM2 := Lib.hid (show (0 + t) * 8 ≤ 140737488355328 by omega)
        clear hrt hs1 HROW HB HB2 HQ2 HF2 HR2 HS2 hmk
        go_wp2_with (at_builtin; refine wpList_append_sarr _ rfl _ _ 31 rfl wr.heap.size 3 n0 _ 8 Try.underlying31 hn0 hy0 hy1 hy2 rfl (.slice none 0 0) 0 [] rfl (World.ownsRow_nil _ _ _ _) A1 t c1 S _ rfl HSLN.out.symm HS1.out HM1.out HM2.out (Nat.le_refl _) ?_)
        intro v2 w2 hown2 hgr2
        have HB3 := Lib.hid (grown_nil hgr2)
        have HO := Lib.hid (show w2.ownsRow wr.heap.size 3 1 v2 S.length (numC S) by rw [HSLN.out]; simpa using hown2)
        have hbs3 : wr.heap.size ≤ w2.heap.size := HB3.out.size
        clear hown2 hgr2
        go_upto_if 68 with fail
        go_cut [18] (fun v wx => ∃ S2 : List Int, wx.ownsRow wr.heap.size 3 1 v S2.length (numC S2) ∧ S2.length ≤ 100 ∧ Below wr.heap.size wr wx)
        case first =>
          by_cases hlz : 0 < li
          · obtain ⟨wk, hwk⟩ : ∃ wk : Nat, (wk : Int) = wz % (li : Int) := ⟨(wz % (li : Int)).toNat, by have := Int.emod_nonneg wz (show (li : Int) ≠ 0 by omega); omega⟩
            have hw3 : (wk : Int) < (li : Int) := by rw [hwk]; exact Int.emod_lt_of_pos _ (by omega)
            have hmw := fun W => mod_any wz (li : Int) (by omega) (by omega) x0 x1 W
            rw [← hwk] at hmw
            have hwb : 0 ≤ (wk : Int) ∧ (wk : Int) < li := by omega
            obtain ⟨i, hi⟩ := nth_of (show wk < FL.length by rw [HLF.out]; omega)
            obtain ⟨bl, ol, rfl, _, zl0, d0, d1, d2, d3, d4⟩ := (HFP.out.next HB3.out).at_ hi
            generalize i.sq = i0 at *
            obtain ⟨X, hX⟩ : ∃ X, X = w2.alloc (.cells #[.int .i64 i0] 3) := ⟨_, rfl⟩
            have HXE := Lib.hid hX
            have HSX := Lib.hid (show SArr X (Lt X.heap.size) (some ⟨w2.heap.size, 0, none⟩) 1 [i0] by rw [hX]; exact sarr_one _ _)
            have HOX := Lib.hid (show X.ownsRow wr.heap.size 3 1 v2 S.length (numC S) by rw [hX]; exact World.ownsRow.alloc HO.out _)
            have HBX := Lib.hid (show Below wr.heap.size wr X by rw [hX]; exact HB3.out.alloc hbs3 _)
            have HBS := Lib.hid HBX.out.size
            have HM3 := Lib.hid (show S.length + 1 ≤ maxLen by simp only [maxLen]; rw [HSLN.out]; omega)
            have HM4 := Lib.hid (show (S.length + 1) * 8 ≤ 140737488355328 by rw [HSLN.out]; omega)
            have HL4 := Lib.hid (show (S ++ [i0]).length ≤ 100 by rw [List.length_append, HSLN.out, List.length_singleton]; omega)
            clear hi hX hwk
            go_wp2_with fail
            refine (hmw _).mono ?_
            rintro e w1 ⟨rfl, rfl⟩
            go_wp2_with (at_builtin; rw [← HXE.out]; refine wpList_append_sarr _ rfl _ _ 31 rfl wr.heap.size 3 n0 _ 8 Try.underlying31 hn0 hy0 hy1 hy2 rfl v2 S.length (numC S) rfl HOX.out (some ⟨w2.heap.size, 0, none⟩) 1 1 [i0] _ rfl rfl HSX.out HM3.out HM4.out HBS.out ?_)
            intro v3 w3 hown3 hgr3
            have HB4 := Lib.hid (HBX.out.grown hgr3 HBS.out (row_blk HOX.out))
            have HO4 := Lib.hid (show w3.ownsRow wr.heap.size 3 1 v3 (S ++ [i0]).length (numC (S ++ [i0])) by rw [numC_append, List.length_append]; exact hown3)
            clear hown3 hgr3
            go_wp2_with fail
            go_meet
            exact ⟨S ++ [i0], HO4.out, HL4.out, HB4.out⟩
          · have hlz2 : li = 0 := by omega
            have HL4 := Lib.hid (show S.length ≤ 100 by rw [HSLN.out]; omega)
            go_wp2_with fail
            go_meet
            exact ⟨S, HO.out, HL4.out, HB3.out⟩
        case rest =>
          obtain ⟨S2, ho2, hl2, hb2⟩ := hcut
          obtain ⟨A2, c2, hv18, hs2⟩ := sarr_of ho2
          subst hv18
          have HSL1 := Lib.hid (show S.length ≤ 100 by rw [HSLN.out]; omega)
          have HSL2 := Lib.hid hl2
          obtain ⟨W5, hW5⟩ : ∃ W, W = wc.alloc (.cells #[.slice QA 3 QC, .slice RA R.length RC] 26) := ⟨_, rfl⟩
          have hb5 : Below wc.heap.size wc W5 := by rw [hW5]; exact (Below.refl _ _).alloc (Nat.le_refl _) _
          have BT := (show Blk W5 wc.heap.size 26 #[.slice QA 3 QC, .slice RA R.length RC] by rw [hW5]; exact Blk.new _ _ _)
          have HT2 := Lib.hid (show ∀ t2, t2 < 2 → TwoQ W5 wc.heap.size t2 from fun t2 ht2 => by
            rcases (by omega : t2 = 0 ∨ t2 = 1) with rfl | rfl
            · exact ⟨QA, 3, QC, qOf I, BT.cell 0, rfl, (HQP.out.next hb2).next hb5, by rw [← HFL.out, HLF.out]; omega⟩
            · exact ⟨RA, R.length, RC, R, BT.cell 1, rfl, (HRP.out.next hb2).next hb5, by have := HRF.out; omega⟩)
          have HS15 := Lib.hid ((HS1.out.next hb2).next hb5)
          have HS25 := Lib.hid (hs2.lt.next hb5)
          have HSQ5 := Lib.hid ((HSP.out.next hb2).next hb5)
          have HB5 := Lib.hid (below_next (below_next HBP.out (Nat.le_refl _) hb2) (Nat.le_refl _) hb5)
          have HW5 := Lib.hid hW5
          clear ho2 hl2 hs2 hb2 hb5 BT hW5 HB3 HO HS1 HQP HFP HRP HSP
          go_wp2_with fail
          rw [← HW5.out]
          go_loopw [84] (fun i wr => ∃ t2 : Nat, t2 ≤ 2 ∧ i = .int .i64 t2 ∧ Below W5.heap.size W5 wr) (fun i _ => 2 - (intOf i).toNat)
          case atStart => exact ⟨0, by omega, rfl, Below.refl _ _⟩
          case round =>
            obtain ⟨t2, ht2, rfl, hb⟩ := hrel
            have HB := Lib.hid hb
            clear hb
            by_cases hlt2 : t2 < 2
            · have hlt3 : 0 ≤ (t2 : Int) ∧ (t2 : Int) < 2 := by omega
              obtain ⟨A, n, c, Q, h1, h2, h3, h4⟩ := (HT2.out t2 hlt2).next HB.out
              obtain ⟨FX, hFX⟩ : ∃ F, F = Q.flatten := ⟨_, rfl⟩
              rw [← hFX] at h4
              obtain ⟨x, hx⟩ : ∃ x, x = FX.head?.getD inc0 := ⟨_, rfl⟩
              obtain ⟨ob, hob⟩ : ∃ b, b = FX.head?.isSome := ⟨_, rfl⟩
              have HF1 := Lib.hid (show ∀ W, QArr W (Lt W.heap.size) A c Q → Calls Try.prog 18 #[.slice A n c] W fun e w' => e = .returned (.tuple #[.agg #[.int .i64 x.sq, .int .i64 x.bt, .int .i64 x.fi, .int .i64 x.la, .int .i64 x.wo], .bool ob]) ∧ Below W.heap.size W w' from fun W hW => (firstO_at A c n Q FX W h2 hFX hW h4).mono fun e w' h => by rw [hx, hob]; exact h)
              have HF2' := Lib.hid (show ∀ W, QArr W (Lt W.heap.size) A c Q → Calls Try.prog 19 #[.slice A n c] W fun e w' => e = .returned (.tuple #[.agg #[.int .i64 x.sq, .int .i64 x.bt, .int .i64 x.fi, .int .i64 x.la, .int .i64 x.wo], .bool ob]) ∧ Below W.heap.size W w' from fun W hW => (refFirst_at A c n Q FX W h2 hFX hW h4).mono fun e w' h => by rw [hx, hob]; exact h)
              have HA1 := Lib.hid (fun W (hW : QArr W (Lt W.heap.size) A c Q) => allO_at A c n Q FX W h2 hFX hW h4)
              have HA2 := Lib.hid (fun W (hW : QArr W (Lt W.heap.size) A c Q) => refAll_at A c n Q FX W h2 hFX hW h4)
              have HP1 := Lib.hid (fun W (hW : QArr W (Lt W.heap.size) A c Q) (B : Option Addr) (d k : Nat) (S : List Int) (hk : k = S.length) (hS : SArr W (Lt W.heap.size) B d S) (hs4 : S.length ≤ 1000) => prefixO_at A c n Q FX B d k S W h2 hFX hk hW hS h4 (by omega))
              have HP2 := Lib.hid (fun W (hW : QArr W (Lt W.heap.size) A c Q) (B : Option Addr) (d k : Nat) (S : List Int) (hk : k = S.length) (hS : SArr W (Lt W.heap.size) B d S) (hs4 : S.length ≤ 1000) => refPrefix_at A c n Q FX B d k S W h2 hFX hk hW hS h4 (by omega))
              have HQX := Lib.hid h3
              have hne := neq_inc x x
              rw [eqI_iff.2 rfl] at hne
              generalize x.sq = y0 at *
              generalize x.bt = y1 at *
              generalize x.fi = y2 at *
              generalize x.la = y3 at *
              generalize x.wo = y4 at *
              clear hx hob hFX h2 h3 h4
              go_wp2_with fail
              refine (HF1.out _ HQX.out).mono ?_
              rintro e w6 ⟨rfl, hb⟩
              obtain ⟨W7, hW7⟩ : ∃ W, W = w6.alloc (.cells #[.int .i64 y0, .int .i64 y1, .int .i64 y2, .int .i64 y3, .int .i64 y4] 24) := ⟨_, rfl⟩
              have hb7 : Below wr.heap.size wr W7 := by rw [hW7]; exact hb.alloc hb.size _
              have B7 := (show Blk W7 w6.heap.size 24 #[.int .i64 y0, .int .i64 y1, .int .i64 y2, .int .i64 y3, .int .i64 y4] by rw [hW7]; exact Blk.new _ _ _)
              have HB7 := Lib.hid hb7
              have HQ7 := Lib.hid (HQX.out.next hb7)
              have HW7 := Lib.hid hW7
              obtain ⟨g7, hg7⟩ : ∃ g, g = w6.heap.size := ⟨_, rfl⟩
              rw [← hg7] at B7
              have HG7 := Lib.hid hg7
              clear hb hb7 hW7 hg7
              go_wp2_with fail
              rw [← HW7.out, ← HG7.out]
              refine (HF2'.out _ HQ7.out).mono ?_
              rintro e w8 ⟨rfl, hb⟩
              obtain ⟨W9, hW9⟩ : ∃ W, W = w8.alloc (.cells #[.int .i64 y0, .int .i64 y1, .int .i64 y2, .int .i64 y3, .int .i64 y4] 24) := ⟨_, rfl⟩
              have hb9 : Below W7.heap.size W7 W9 := by rw [hW9]; exact hb.alloc hb.size _
              have B9 := (show Blk W9 w8.heap.size 24 #[.int .i64 y0, .int .i64 y1, .int .i64 y2, .int .i64 y3, .int .i64 y4] by rw [hW9]; exact Blk.new _ _ _)
              have HQ9 := Lib.hid (HQ7.out.next hb9)
              have HB9 := Lib.hid (below_next HB7.out (Nat.le_refl _) hb9)
              have BB7 := B7.next hb9
              have HW9 := Lib.hid hW9
              obtain ⟨g9, hg9⟩ : ∃ g, g = w8.heap.size := ⟨_, rfl⟩
              rw [← hg9] at B9
              have HG9 := Lib.hid hg9
              have q0 := BB7.cell 0
              have q1 := BB7.cell 1
              have q2 := BB7.cell 2
              have q3 := BB7.cell 3
              have q4 := BB7.cell 4
              have r0 := B9.cell 0
              have r1 := B9.cell 1
              have r2 := B9.cell 2
              have r3 := B9.cell 3
              have r4 := B9.cell 4
              simp at q0 q1 q2 q3 q4 r0 r1 r2 r3 r4
              clear hb hb9 hW9 hg9 B7 B9 BB7
              go_upto_region 20 with fail
              rw [← HW9.out, ← HG9.out]
              have z7 : g7 < W9.heap.size := cell_lt q0
              go_wp2_with fail
              refine (HA1.out _ HQ9.out).mono ?_
              rintro e w10 ⟨C1, d1, rfl, hl1, hb⟩
              have HB10 := Lib.hid (below_next HB9.out (Nat.le_refl _) hb)
              have HQ10 := Lib.hid (HQ9.out.next hb)
              have HL1 := Lib.hid hl1
              clear hb hl1 q0 q1 q2 q3 q4 r0 r1 r2 r3 r4 z7
              go_wp2_with fail
              refine (HA2.out _ HQ10.out).mono ?_
              rintro e w11 ⟨C2, d2, rfl, hl2, hb⟩
              have HB11 := Lib.hid (below_next HB10.out (Nat.le_refl _) hb)
              have HQ11 := Lib.hid (HQ10.out.next hb)
              have HL11 := Lib.hid (HL1.out.next hb)
              have HL12 := Lib.hid hl2
              clear hb hl2
              go_wp2_with fail
              refine (sameList_any C1 C2 d1 d2 FX FX w11 HL11.out HL12.out).mono ?_
              rintro e w12 ⟨b, rfl, hbp, hb⟩
              have hbt : b = true := hbp.2 rfl
              subst hbt
              have HB12 := Lib.hid (below_next HB11.out (Nat.le_refl _) hb)
              have HQ12 := Lib.hid (HQ11.out.next hb)
              have HS12 := Lib.hid ((HS15.out.next HB.out).next HB12.out)
              clear hb hbp
              have HSS := Lib.hid (show t + t ≤ maxLen by simp only [maxLen]; omega)
              have HST2 := Lib.hid (show (t + t) * 8 ≤ 140737488355328 by omega)
              have HM5 := Lib.hid (show 0 + t ≤ maxLen by simp only [maxLen]; omega)
              have HM6 := Lib.hid (show (0 + t) * 8 ≤ 140737488355328 by omega)
              clear hne
              go_wp2_with (at_builtin; refine wpList_append_sarr _ rfl _ _ 31 rfl w12.heap.size 3 n0 _ 8 Try.underlying31 hn0 hy0 hy1 hy2 rfl (.slice none 0 0) 0 [] rfl (World.ownsRow_nil _ _ _ _) A1 t c1 S _ rfl HSLN.out.symm HS12.out HM5.out HM6.out (Nat.le_refl _) ?_)
              intro v3 w13 hown3 hgr3
              have HB13 := Lib.hid (grown_nil hgr3)
              have HO13 := Lib.hid (show w13.ownsRow w12.heap.size 3 1 v3 t (numC S) by simpa using hown3)
              have HS13 := Lib.hid (HS12.out.next HB13.out)
              have HZ13 := Lib.hid HB13.out.size
              clear hown3 hgr3
              go_wp2_with (at_builtin; refine wpList_append_sarr _ rfl _ _ 31 rfl w12.heap.size 3 n0 _ 8 Try.underlying31 hn0 hy0 hy1 hy2 rfl v3 t (numC S) rfl HO13.out A1 t c1 S _ rfl HSLN.out.symm HS13.out HSS.out HST2.out HZ13.out ?_)
              intro v4 w14 hown4 hgr4
              have HB14 := Lib.hid (HB13.out.grown hgr4 HZ13.out (row_blk HO13.out))
              obtain ⟨A3, c3, hv4, hs3⟩ := sarr_of (S := S ++ S) (v := v4) (w := w14) (B := w12.heap.size) (by rw [numC_append, List.length_append, HSLN.out]; exact hown4)
              rw [List.length_append, HSLN.out] at hv4
              subst hv4
              obtain ⟨W15, hW15⟩ : ∃ W, W = w14.alloc (.cells #[.slice SA SQ.length SC, .slice A1 t c1, .slice A2 S2.length c2, .slice none 0 0, .slice A3 (t + t) c3] 31) := ⟨_, rfl⟩
              have hb15 : Below w14.heap.size w14 W15 := by rw [hW15]; exact (Below.refl _ _).alloc (Nat.le_refl _) _
              have BV := (show Blk W15 w14.heap.size 31 #[.slice SA SQ.length SC, .slice A1 t c1, .slice A2 S2.length c2, .slice none 0 0, .slice A3 (t + t) c3] by rw [hW15]; exact Blk.new _ _ _)
              have hb1215 : Below w12.heap.size w12 W15 := HB14.out.trans (hb15.mono HB14.out.size)
              have hbw5 : Below W5.heap.size W5 W15 := HB.out.trans ((HB12.out.trans (hb1215.mono HB12.out.size)).mono HB.out.size)
              have HV5 := Lib.hid (show ∀ t3, t3 < 5 → FiveS W15 w14.heap.size t3 from fun t3 ht3 => by
                rcases (by omega : t3 = 0 ∨ t3 = 1 ∨ t3 = 2 ∨ t3 = 3 ∨ t3 = 4) with rfl | rfl | rfl | rfl | rfl
                · exact ⟨SA, SQ.length, SC, SQ, BV.cell 0, rfl, HSQ5.out.next hbw5, by have := HSL.out; omega⟩
                · exact ⟨A1, t, c1, S, BV.cell 1, HSLN.out.symm, HS15.out.next hbw5, by have := HSL1.out; omega⟩
                · exact ⟨A2, S2.length, c2, S2, BV.cell 2, rfl, HS25.out.next hbw5, by have := HSL2.out; omega⟩
                · exact ⟨none, 0, 0, [], BV.cell 3, rfl, SArr.nil _ _, by simp⟩
                · exact ⟨A3, t + t, c3, S ++ S, BV.cell 4, by rw [List.length_append, HSLN.out], hs3.lt.next hb15, by rw [List.length_append, HSLN.out]; omega⟩)
              have HB15 := Lib.hid hbw5
              have HQ15 := Lib.hid (HQ12.out.next hb1215)
              have HW15 := Lib.hid hW15
              clear hown4 hgr4 hs3 hW15 hb15 BV hb1215 hbw5
              go_wp2_with fail
              rw [← HW15.out]
              go_loopw [123] (fun i wr => ∃ t3 : Nat, t3 ≤ 5 ∧ i = .int .i64 t3 ∧ Below W15.heap.size W15 wr) (fun i _ => 5 - (intOf i).toNat)
              case atStart => exact ⟨0, by omega, rfl, Below.refl _ _⟩
              case round =>
                obtain ⟨t3, ht3, rfl, hb⟩ := hrel
                have HBL := Lib.hid hb
                clear hb
                by_cases hlt4 : t3 < 5
                · have hlt5 : 0 ≤ (t3 : Int) ∧ (t3 : Int) < 5 := by omega
                  obtain ⟨B4, k4, d4, S4, h1, h2, h3, h4⟩ := (HV5.out t3 hlt4).next HBL.out
                  have HQL := Lib.hid (HQ15.out.next HBL.out)
                  have H2 := Lib.hid h2
                  have H3 := Lib.hid h3
                  have H4 := Lib.hid h4
                  clear h2 h3 h4
                  go_wp2_with fail
                  refine (HP1.out _ HQL.out B4 d4 k4 S4 H2.out H3.out H4.out).mono ?_
                  rintro e w16 ⟨b1, rfl, hb1, hb⟩
                  have HQ16 := Lib.hid (HQL.out.next hb)
                  have HS16 := Lib.hid (H3.out.next hb)
                  have HB16 := Lib.hid (below_next HBL.out (Nat.le_refl _) hb)
                  clear hb
                  go_wp2_with fail
                  refine (HP2.out _ HQ16.out B4 d4 k4 S4 H2.out HS16.out H4.out).mono ?_
                  rintro e w17 ⟨b2, rfl, hb2, hb⟩
                  have HB17 := Lib.hid (below_next HB16.out (Nat.le_refl _) hb)
                  have hbb : b2 = b1 := by rw [Bool.eq_iff_iff, hb1, hb2]
                  subst hbb
                  clear hb hb1 hb2
                  go_wp2_with fail
                  exact ⟨⟨t3 + 1, by omega, by go_num, HB17.out⟩, by simp [intOf]; omega⟩
                · have hlt5 : ¬ (t3 : Int) < 5 := by omega
                  have HBE := Lib.hid (below_next HB15.out (Nat.le_refl _) HBL.out)
                  go_wp2_with fail
                  exact ⟨⟨t2 + 1, by omega, by go_num, HBE.out⟩, by simp [intOf]; omega⟩
            · have hlt3 : ¬ (t2 : Int) < 2 := by omega
              go_wp2_with fail
              refine (awake15_any _).mono ?_
              rintro e w8 ⟨rfl, hb⟩
              have HB6 := Lib.hid (below_next (below_next HB5.out (Nat.le_refl _) HB.out) (Nat.le_refl _) hb)
              clear hb
              go_wp2
              go_ret
              exact ⟨rfl, HB6.out⟩
end Go.Proofs.Ytlafkkekfkamoaa
