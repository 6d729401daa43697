/-
  The law RemsetDrops: what is left without some frames, and which slots point into frames from outside.
-/
import Derived.Test.YtkjmokaahpkahaaRAwk
import Derived.Test.YtkjmokaahpkahaaRSlo
namespace Go.Proofs.Ytkjmokaahpkahaa
open Go.RowKit
set_option maxRecDepth 100000
set_option linter.unusedVariables false

/-- Two lists of numbers in one block. -/
theorem two_news {w : World} {g : Nat} {v0 v1 : Value} {t : TypeId} (h : Blk w g t #[v0, v1]) : w.cell? ⟨g, 0, none⟩ = some v0 ∧ w.cell? ⟨g, 1, none⟩ = some v1 := ⟨h.cell 0, h.cell 1⟩
/-- A number more behind a row of the call's own. -/
theorem below_turn18 {w w1 w2 : World} {dk : Nat} (hb : Below w.heap.size w w1) (hg : w1.grownBy w2 (some dk)) (h : w.heap.size ≤ dk) : Below w.heap.size w w2 := hb.trans (turn_under hg h hb.size)

theorem turn_row18 {a w w1 : World} {r row : Option Nat} (h : a.grownBy w r) (hr : w.grownBy w1 row) (hb : ∀ k, row = some k → a.heap.size ≤ k) : a.grownBy w1 r :=
  ⟨hr.os.trans h.os, hr.tape.trans h.tape, hr.output.trans h.output, Nat.le_trans h.size hr.size, fun k hk hne => (hr.block k (Nat.lt_of_lt_of_le hk h.size) (fun e => by have := hb k e.symm; omega)).trans (h.block k hk hne)⟩

set_option maxHeartbeats 8000000 in
theorem walkDrops (Al : Option Addr) (nl cl : Nat) (B : Option Addr) (cb : Nat) (F : List Int) (w : World) (hL : ListP w w.heap.size Al nl cl) (hF : SArr w (Lt w.heap.size) B cb F) (hFi : ∀ x ∈ F, in64 x) :
    Calls Try.prog 4 #[.slice Al nl cl, .slice B F.length cb] w fun e w' => e = .returned (.bool true) ∧ Below w.heap.size w w' := by
  obtain ⟨i0, hi0, hz0, hz1, hz2⟩ := info_parts num_info
  have HL := Lib.hid hL
  have HF := Lib.hid hF
  have HFI := Lib.hid hFi
  have hm := hF.2.1
  have hm' := hF.1
  simp only [maxLen] at hm
  clear hL hF hFi
  by_cases h60 : 60 < F.length
  · have h60' : (60 : Int) < F.length := by omega
    go_enter Try.func4, Try.ntmps4
    go_wp2_with fail
    refine (awake18_any w).mono ?_
    rintro e W ⟨rfl, hb⟩
    go_wp2_with fail
    go_ret
    exact ⟨rfl, hb⟩
  have h60' : ¬ (60 : Int) < F.length := by omega
  go_enter Try.func4, Try.ntmps4
  go_wp2_with fail
  refine (deck_any Al nl cl w HL.out).mono ?_
  rintro e U ⟨rfl, hd, hb, hz⟩
  have HD := Lib.hid hd
  have HBU := Lib.hid hb
  clear hd hb
  go_wp2_with fail
  refine (slots_any w.heap.size U HD.out).mono ?_
  rintro e V ⟨v, L, rfl, hv, hl, hc, ht, hd, hg⟩
  have HV := Lib.hid hv
  have HT := Lib.hid ht
  have HDV := Lib.hid hd
  have HBV := Lib.hid (below_turn18 HBU.out hg (Nat.le_refl _))
  have HCN := Lib.hid hc
  clear hv ht hd hg
  go_wp2_with fail
  refine (next_any w.heap.size 4 V (by omega) (by omega) HDV.out).mono ?_
  rintro e V1 ⟨k0, rfl, a0, a1, hD, hG⟩
  have HD1 := Lib.hid hD
  have HT1 := Lib.hid (HT.out.turn HDV.out hG)
  have HB1 := Lib.hid (below_turn18 HBV.out hG (Nat.le_refl _))
  clear hD hG
  have HBS := Lib.hid HBU.out.size
  go_upto_block 0 with fail
  go_cut [7, 8] (fun v2 _ wx => ∃ S : List Int, S.length ≤ 4 ∧ (∀ f ∈ S, in64 f) ∧ wx.ownsRow V1.heap.size 3 1 v2 S.length (numC S) ∧ V1.grownBy wx (some w.heap.size))
  case first =>
    go_wp2_with fail
    go_loopw [7, 8] (fun v2 k wr => ∃ (t : Nat) (S : List Int), k = .int .i64 t ∧ S.length + t ≤ 4 ∧ (∀ f ∈ S, in64 f) ∧ wr.ownsRow V1.heap.size 3 1 v2 S.length (numC S) ∧ DeckP wr w.heap.size ∧ V1.grownBy wr (some w.heap.size)) (fun _ k _ => (intOf k).toNat)
    case atStart => exact ⟨k0.toNat, [], by rw [Int.toNat_of_nonneg a0], by simp; omega, by simp, World.ownsRow_nil _ _ _ _, HD1.out, turn_below (Below.refl _ V1)⟩
    case round =>
      obtain ⟨t, S, rfl, hl, hin, ho, hd, hg⟩ := hrel
      have HIN := Lib.hid hin
      have HO := Lib.hid ho
      have HDR := Lib.hid hd
      have HGR := Lib.hid hg
      clear ho hd hg hin
      by_cases hlt2 : 0 < t
      · have hlt3 : (0 : Int) < (t : Int) := by omega
        have hw1 : IntKind.i64.wrap ((t : Int) - 1) = ((t - 1 : Nat) : Int) := by rw [IntWalk.i64_in _ (by omega)]; omega
        go_wp2_with fail
        refine (next_any w.heap.size 7 wr (by omega) (by omega) HDR.out).mono ?_
        rintro e W1 ⟨f, rfl, f0, f1, hD, hG⟩
        have HINF : Hid (∀ g ∈ S ++ [f], in64 g) := Lib.hid (fun g hg => by
          rcases List.mem_append.1 hg with h | h
          · exact HIN.out g h
          · simp at h; subst h; unfold in64; omega)
        clear f0 f1
        have HDE := Lib.hid hD
        have HGE := Lib.hid (turn_trans HGR.out hG)
        have hdl := HD1.out.lt
        have HOE := Lib.hid (ownsRow_keep (w' := W1) HO.out fun g _ hg hl => hG.block g hl (fun e => by injection e; omega))
        have HSE := Lib.hid (show V1.heap.size ≤ W1.heap.size from Nat.le_trans HGR.out.size hG.size)
        obtain ⟨X, hX⟩ : ∃ X, X = W1.alloc (.cells #[.int .i64 f] 3) := ⟨_, rfl⟩
        have BX : Blk X W1.heap.size 3 #[.int .i64 f] := by rw [hX]; exact Blk.new _ _ _
        have q0 := BX.cell 0
        have HNW := Lib.hid (one_news q0)
        have hbx : Below W1.heap.size W1 X := by rw [hX]; exact (Below.refl _ _).alloc (Nat.le_refl _) _
        have HOX := Lib.hid (ownsRow_keep (w' := X) HOE.out fun g _ _ hl => hbx.block g hl)
        have HBX := Lib.hid hbx
        have HGX := Lib.hid (turn_next HGE.out hbx)
        have HX := Lib.hid hX
        have HM1 := Lib.hid (show S.length + 1 ≤ maxLen by simp only [maxLen]; omega)
        have HM2 := Lib.hid (show (S.length + 1) * 8 ≤ 140737488355328 by omega)
        have HSX := Lib.hid (Nat.le_trans HSE.out hbx.size)
        clear hD hG BX q0 hbx hX
        go_wp2_with (at_builtin; rw [← HX.out]; refine wpList_append_own _ rfl _ _ 23 rfl V1.heap.size 3 i0 _ 1 8 Try.underlying23 hi0 hz0 hz1 hz2 rfl (by decide) u7 S.length (numC S) rfl HOX.out ⟨W1.heap.size, 0, none⟩ 1 1 [.int .i64 f] rfl rfl HNW.out (by simp [Value.oneCell']) HM1.out HM2.out HSX.out ?_)
        intro v3 W3 hown3 hgr3 _
        have HP : Hid (W3.ownsRow V1.heap.size 3 1 v3 (S ++ [f]).length (numC (S ++ [f]))) := Lib.hid (by rw [numC_append, List.length_append]; exact hown3)
        have HG3 := Lib.hid (turn_row18 HGX.out hgr3 (row_block HOX.out))
        have HD3 : Hid (DeckP W3 w.heap.size) := Lib.hid (by
          obtain ⟨A5, n5, c5, p5, k1, k2, k3, k4, k5⟩ := HDE.out.next HBX.out
          have hk : ∀ k, k < V1.heap.size → W3.heap[k]? = X.heap[k]? := fun k hk => hgr3.block k (by have := HSX.out; omega) (fun e => by have := row_block HOX.out k e.symm; omega)
          refine ⟨A5, n5, c5, p5, (hk _ hdl).trans k1, k2, k3, k4, fun j hj => ?_⟩
          obtain ⟨b5, o5, v5, e5, l5, x5, y5⟩ := k5 j hj
          exact ⟨b5, o5, v5, e5, l5, by rw [World.cell?_of_block (w := X) (w' := W3) (hk b5 (by omega))]; exact x5, y5⟩)
        clear hown3 hgr3
        go_wp2_with fail
        exact ⟨⟨t - 1, S ++ [f], by go_num, by simp; omega, HINF.out, HP.out, HD3.out, HG3.out⟩, by simp [intOf]; omega⟩
      · have hlt3 : ¬ (0 : Int) < (t : Int) := by omega
        go_wp2_with fail
        go_meet
        exact ⟨S, by omega, HIN.out, HO.out, HGR.out⟩
  case rest =>
    obtain ⟨S, hS4, hsi, ho, hg⟩ := hcut
    have HSI := Lib.hid hsi
    clear hsi
    obtain ⟨A6, c6, rfl, hS6⟩ := inn_own (lo := 0) ho rfl
    obtain ⟨A7, c7, rfl, hT7⟩ := (HT1.out.turn HD1.out hg).tarr
    have HB := Lib.hid (below_turn18 HB1.out hg (Nat.le_refl _))
    have HS6 := Lib.hid hS6.lt
    have HT7 := Lib.hid hT7
    have HVL := Lib.hid HV.out
    clear ho hg hS6 hT7
    obtain ⟨X, hX⟩ : ∃ X, X = wc.alloc (.cells #[.slice B F.length cb, .slice A6 S.length c6] 23) := ⟨_, rfl⟩
    have hbx : Below wc.heap.size wc X := by rw [hX]; exact (Below.refl _ _).alloc (Nat.le_refl _) _
    have HXB := Lib.hid (show Blk X wc.heap.size 23 #[.slice B F.length cb, .slice A6 S.length c6] by rw [hX]; exact Blk.new _ _ _)
    have HX := Lib.hid hX
    have HBX := Lib.hid hbx
    have HFX := Lib.hid (HF.out.next (HB.out.trans (hbx.mono HB.out.size)))
    have HSX := Lib.hid (HS6.out.next hbx)
    have HTX := Lib.hid (HT7.out.next hbx)
    have HBT := Lib.hid (HB.out.trans (hbx.mono HB.out.size))
    clear hX hbx
    have AT : Hid (∀ (W : World) (t : Nat), Below X.heap.size X W → t < 2 → ∃ (A5 : Option Addr) (c5 : Nat) (G : List Int), W.cell? ⟨wc.heap.size, t, none⟩ = some (.slice A5 G.length c5) ∧ SArr W (Lt W.heap.size) A5 c5 G ∧ ∀ x ∈ G, in64 x) := Lib.hid fun W t hW ht => by
      have c0 := hW.cell (p := ⟨wc.heap.size, 0, none⟩) HXB.out.lt
      have c1 := hW.cell (p := ⟨wc.heap.size, 1, none⟩) HXB.out.lt
      rcases (by omega : t = 0 ∨ t = 1) with rfl | rfl
      · exact ⟨B, cb, F, c0.trans (HXB.out.cell 0), HFX.out.next hW, HFI.out⟩
      · exact ⟨A6, c6, S, c1.trans (HXB.out.cell 1), HSX.out.next hW, HSI.out⟩
    go_wp2_with fail
    go_loopw [38] (fun i wr => ∃ t : Nat, t ≤ 2 ∧ i = .int .i64 t ∧ Below X.heap.size X wr) (fun i _ => 2 - (intOf i).toNat)
    case atStart => exact ⟨0, by omega, rfl, by rw [← HX.out]; exact Below.refl _ _⟩
    case round =>
      obtain ⟨t, ht, rfl, hb⟩ := hrel
      have HBR := Lib.hid hb
      clear hb
      by_cases hlt : t < 2
      · have hlt2 : 0 ≤ (t : Int) ∧ (t : Int) < 2 := by omega
        obtain ⟨A5, c5, G, c0, hG, hGi⟩ := AT.out _ t HBR.out hlt
        have HGI := Lib.hid hGi
        clear hGi
        have HG := Lib.hid hG
        have HTR := Lib.hid (HTX.out.next HBR.out)
        clear hG
        go_wp2_with fail
        refine (devInto_any A7 c7 L _ HTR.out A5 c5 G HG.out HGI.out (by have := HCN.out; omega) HVL.out).mono ?_
        rintro e W1 ⟨AA, ca, rfl, hA, hb1⟩
        have HA := Lib.hid hA
        have HB1 := Lib.hid hb1
        have HT1 := Lib.hid (HTR.out.next hb1)
        have HG1 := Lib.hid (HG.out.next hb1)
        clear hA hb1 c0
        go_wp2_with fail
        refine (into18_any A7 c7 L A5 c5 G W1 HT1.out HG1.out (by have := HCN.out; omega)).mono ?_
        rintro e W2 ⟨AB, cB, rfl, hB, hb2⟩
        have HA2 := Lib.hid (HA.out.next hb2)
        have HB2 := Lib.hid hB.lt
        have HT2 := Lib.hid (HT1.out.next hb2)
        have HG2 := Lib.hid (HG1.out.next hb2)
        have HBB := Lib.hid (HB1.out.trans (hb2.mono HB1.out.size))
        clear hB hb2
        go_wp2_with fail
        refine (refSameInts_any AA AB ca cB _ _ W2 HA2.out HB2.out).mono ?_
        rintro e W3 ⟨q, rfl, hq, hb3⟩
        obtain rfl : q = true := hq.2 rfl
        have HT3 := Lib.hid (HT2.out.next hb3)
        have HG3 := Lib.hid (HG2.out.next hb3)
        have HBC := Lib.hid (HBB.out.trans (hb3.mono HBB.out.size))
        clear hq hb3
        have HLL := Lib.hid (show L.length ≤ 1048000 by omega)
        have HLS : Hid (∀ x ∈ L, x.sl.length ≤ 1048000) := Lib.hid fun x hx => by have := sl_le hx; have := HCN.out; omega
        go_wp2_with fail
        refine (devDrop_any A7 c7 L W3 HT3.out A5 c5 G HG3.out HGI.out HLL.out HLS.out HVL.out).mono ?_
        rintro e W4 ⟨AD, cD, rfl, hD, hb4⟩
        have HD4 := Lib.hid hD
        have HT4 := Lib.hid (HT3.out.next hb4)
        have HG4 := Lib.hid (HG3.out.next hb4)
        have HBD := Lib.hid (HBC.out.trans (hb4.mono HBC.out.size))
        clear hD hb4
        go_wp2_with fail
        refine (drop18_any A7 c7 L A5 c5 G W4 HT4.out HG4.out HLL.out HLS.out).mono ?_
        rintro e W5 ⟨vE, rfl, hE, hb5⟩
        obtain ⟨AE, cE, rfl, hE2⟩ := hE.tarr
        have HE5 := Lib.hid hE2
        have HD5 := Lib.hid (HD4.out.next hb5)
        have HBE := Lib.hid (HBD.out.trans (hb5.mono HBD.out.size))
        clear hE hE2 hb5
        go_wp2_with fail
        refine (same18_any AD AE cD cE _ _ W5 HD5.out HE5.out).mono ?_
        rintro e W6 ⟨q, rfl, hq, hb6⟩
        obtain rfl : q = true := hq.2 rfl
        have HBF := Lib.hid (HBE.out.trans (hb6.mono HBE.out.size))
        clear hq hb6
        go_wp2_with fail
        exact ⟨⟨t + 1, by omega, by go_num, HBR.out.trans (HBF.out.mono HBR.out.size)⟩, by simp [intOf]; omega⟩
      · have hlt2 : ¬ (t : Int) < 2 := by omega
        go_wp2_with fail
        refine (awake18_any _).mono ?_
        rintro e W ⟨rfl, hb⟩
        have HBW := Lib.hid hb
        clear hb
        go_wp2_with fail
        go_ret
        exact ⟨rfl, HBT.out.trans ((HBR.out.trans (HBW.out.mono HBR.out.size)).mono HBT.out.size)⟩
end Go.Proofs.Ytkjmokaahpkahaa
