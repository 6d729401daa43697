/-
  A number more at its place: the reference's with.
-/
import Derived.Test.YtjkbjbikofindaaRFn
namespace Go.Proofs.Ytjkbjbikofindaa
open Go.RowKit
set_option maxRecDepth 100000
set_option linter.unusedVariables false

/-- A row of numbers that the call gives back: it may be read; its block is of numbers, or below lo. -/
def GivesS (S : List Int) (lo : Nat) (w : World) (e : Ending) (w' : World) : Prop := ∃ A c, e = .returned (.slice A S.length c) ∧ SArr w' (Inn w' lo) A c S ∧ Below w.heap.size w w'

set_option maxHeartbeats 4000000 in
theorem with_any (A : Option Addr) (c : Nat) (S : List Int) (v : Int) (lo : Nat) (w : World) (hS : SArr w (Inn w lo) A c S) (hl : S.length ≤ 1048576) :
    Calls Try.prog 41 #[.slice A S.length c, .int .i64 v] w (GivesS (withL v S) lo w) := by
  have HS := Lib.hid hS
  have hm := hS.2.1
  have hm' := hS.1
  simp only [maxLen] at hm
  clear hS
  go_enter Try.func41, Try.ntmps41
  go_wp2_with fail
  go_loopw [5] (fun i wr => ∃ t : Nat, t ≤ S.length ∧ i = .int .i64 t ∧ (∀ (j : Nat) (x : Int), j < t → S[j]? = some x → x < v) ∧ Below w.heap.size w wr) (fun i _ => S.length - (intOf i).toNat)
  case atStart => exact ⟨0, by omega, rfl, fun j x hj => by omega, Below.refl _ _⟩
  case round =>
    obtain ⟨t, ht, rfl, hno, hb⟩ := hrel
    have HN := Lib.hid hno
    have HB := Lib.hid hb
    have HSR := Lib.hid (HS.out.inn (w' := wr) fun b _ hl => HB.out.block b hl)
    clear hno hb
    by_cases hlt : t < S.length
    · have hlt2 : 0 ≤ (t : Int) ∧ (t : Int) < S.length := by omega
      obtain ⟨x, hx⟩ := nth_of hlt
      obtain ⟨b, o, hA, _, hbl, c0⟩ := HSR.out.at_ hx
      have HX := Lib.hid hx
      clear hx
      by_cases he : x < v
      · have HE := Lib.hid he
        subst hA
        go_wp2_with fail
        refine ⟨⟨t + 1, by omega, by go_num, fun j y hj hy => ?_, HB.out⟩, by simp [intOf]; omega⟩
        rcases (by omega : j < t ∨ j = t) with h | h
        · exact HN.out j y h hy
        · subst h
          rw [HX.out] at hy
          injection hy with hy
          rw [← hy]
          exact HE.out
      · have HW := Lib.hid (withL_at S t (by omega) HN.out (fun y hy => by rw [HX.out] at hy; injection hy with hy; rw [← hy]; exact he))
        by_cases he2 : x = v
        · have he3 : (x == v) = true := by simpa using he2
          have hWS : withL v S = S := by rw [HW.out, if_pos (by rw [HX.out, he2])]
          have HWS := Lib.hid hWS
          clear hWS
          subst hA
          go_wp2_with fail
          go_ret
          exact ⟨_, c, by rw [HWS.out]; rfl, by rw [HWS.out]; exact HSR.out, HB.out⟩
        · have he3 : (x == v) = false := by simpa using he2
          have hWS : withL v S = S.take t ++ [v] ++ S.drop t := by rw [HW.out, if_neg (by rw [HX.out]; intro h; injection h with h; exact he2 h)]
          have HWS := Lib.hid hWS
          clear hWS
          subst hA
          obtain ⟨i0, hi0, hz0, hz1, hz2⟩ := info_parts num_info
          have HM1 := Lib.hid (show 0 + t ≤ maxLen by simp only [maxLen]; omega)
          have HM2 := Lib.hid (show (0 + t) * 8 ≤ 140737488355328 by omega)
          have HM3 := Lib.hid (show t + 1 ≤ maxLen by simp only [maxLen]; omega)
          have HM4 := Lib.hid (show (t + 1) * 8 ≤ 140737488355328 by omega)
          have HM5 := Lib.hid (show t + 1 + (S.length - t) ≤ maxLen by simp only [maxLen]; omega)
          have HM6 := Lib.hid (show (t + 1 + (S.length - t)) * 8 ≤ 140737488355328 by omega)
          have HTL := Lib.hid (show t = (S.take t).length by rw [List.length_take]; omega)
          have HDL := Lib.hid (show (S.length - t) = (S.drop t).length by simp)
          have HST := Lib.hid (SArr.take HSR.out t)
          have HLE := Lib.hid (show t ≤ S.length by omega)
          have hle1 : (0 : Int) ≤ t ∧ (t : Int) ≤ c := by omega
          have hle2 : (t : Int) ≤ S.length := by omega
          go_upto_region 6 with fail
          go_wp2_with (at_builtin; refine wpList_append_sarr _ rfl _ _ 27 rfl wr.heap.size 3 i0 _ 8 Try.underlying27 hi0 hz0 hz1 hz2 rfl (.slice none 0 0) 0 [] rfl (World.ownsRow_nil _ _ _ _) _ t c (S.take t) (Inn wr lo) rfl HTL.out HST.out HM1.out HM2.out (Nat.le_refl _) ?_)
          intro v1 w1 hown hgr1
          try simp only [Nat.zero_add, List.nil_append] at hown
          have HG1 := Lib.hid (grown_nil hgr1)
          have HO1 := Lib.hid (show w1.ownsRow wr.heap.size 3 1 v1 t (numC (S.take t)) from by first | exact hown | (rw [List.take_length]; exact hown))
          have HOB := Lib.hid (row_block hown)
          obtain ⟨A1, c1, rfl, _⟩ := row_slice hown
          clear hown hgr1
          go_upto_region 7 with fail
          have HODa : Hid (∀ o, Below w1.heap.size w1 (w1.drew.alloc o)) := Lib.hid fun o => ((Below.refl _ w1).drew).alloc (Nat.le_refl _) _
          have HODb : Hid (∀ o, Below w1.heap.size w1 (w1.alloc o).drew) := Lib.hid fun o => ((Below.refl _ w1).alloc (Nat.le_refl _) _).drew
          have HSZ := Lib.hid HG1.out.size
          have HBL : Hid (∀ W, Below w1.heap.size w1 W → Below wr.heap.size wr W) := Lib.hid fun W h => HG1.out.trans (h.mono HSZ.out)
          have hct : ¬ c = t := by omega
          have HSRC : Hid (∀ W, Below wr.heap.size wr W → ∀ (j : Nat) (u : Value), (numC (S.drop t))[j]? = some u → W.cell? ((⟨b, o + t, none⟩ : Addr).add j) = some u) := Lib.hid fun W hW j u hu => by
            have h := (SArr.drop HSR.out t HLE.out).cells j u hu
            rw [add_at] at h ⊢
            exact (hW.cell hbl).trans h
          go_region_law (first
            | (refine step_wp rfl (wp_append_own _ _ _ 27 rfl wr.heap.size 3 i0 _ 1 8 Try.underlying27 hi0 hz0 hz1 hz2 rfl (by decide) (.slice A1 t c1) t (numC (S.take t)) rfl (ownsRow_keep HO1.out fun g _ _ hl => (show Below w1.heap.size w1 _ from by first | exact HODa.out _ | exact HODb.out _).block g hl) ⟨w1.heap.size, 0, none⟩ 1 1 [.int .i64 v] rfl rfl (one_news (by go_simp)) (by simp [Value.oneCell']) HM3.out HM4.out (Nat.le_trans HSZ.out (show Below w1.heap.size w1 _ from by first | exact HODa.out _ | exact HODb.out _).size) ?_); intro v2 w2 hown2 hgr2 _)
            | (refine step_wp rfl (wp_append_own _ _ _ 27 rfl wr.heap.size 3 i0 _ 1 8 Try.underlying27 hi0 hz0 hz1 hz2 rfl (by decide) v2 (t + 1) (numC (S.take t) ++ [.int .i64 v]) rfl hown2 ⟨b, o + t, none⟩ (S.length - t) (c - t) (numC (S.drop t)) rfl (by rw [numC_length, Nat.mul_one]; exact HDL.out.symm) (HSRC.out _ ((HBL.out _ (show Below w1.heap.size w1 _ from by first | exact HODa.out _ | exact HODb.out _)).grown hgr2 (HBL.out _ (show Below w1.heap.size w1 _ from by first | exact HODa.out _ | exact HODb.out _)).size HOB.out)) (numC_one _) HM5.out HM6.out (Nat.le_trans (Nat.le_trans HSZ.out (show Below w1.heap.size w1 _ from by first | exact HODa.out _ | exact HODb.out _).size) hgr2.size) ?_); intro v3 w3 hown3 hgr3 _))
          all_goals
            go_wp2
            go_ret
            have hown4 : w3.ownsRow wr.heap.size 3 1 v3 (t + 1 + (S.length - t)) (numC (S.take t ++ [v] ++ S.drop t)) := by rw [numC_append, numC_append]; exact hown3
            obtain ⟨A3, c3, rfl, h3⟩ := inn_own (lo := lo) hown4 (by simp <;> omega)
            exact ⟨A3, c3, by rw [HWS.out]; rfl, by rw [HWS.out]; exact h3, HB.out.trans ((((HBL.out _ (show Below w1.heap.size w1 _ from by first | exact HODa.out _ | exact HODb.out _)).grown hgr2 (HBL.out _ (show Below w1.heap.size w1 _ from by first | exact HODa.out _ | exact HODb.out _)).size HOB.out).grown hgr3 (Nat.le_trans (HBL.out _ (show Below w1.heap.size w1 _ from by first | exact HODa.out _ | exact HODb.out _)).size hgr2.size) (row_block hown2)).mono HB.out.size)⟩
    · have hlt2 : ¬ (t : Int) < S.length := by omega
      obtain rfl : t = S.length := by omega
      have hWS : withL v S = S.take S.length ++ [v] ++ S.drop S.length := by
        rw [withL_at S S.length (by omega) HN.out (fun y hy => by have := get_lt hy; omega), if_neg (by rw [List.getElem?_eq_none (by omega)]; simp)]
      have HWS := Lib.hid hWS
      clear hWS
      rcases A with _ | ad
      · obtain ⟨i0, hi0, hz0, hz1, hz2⟩ := info_parts num_info
        have hc0 := HSR.out.2.2.1 rfl
        have hS0 : S = [] := List.length_eq_zero_iff.1 (by omega)
        subst hS0 hc0
        have HWT := Lib.hid (show withL v [] = [v] from rfl)
        have HM1 := Lib.hid (show 0 + 1 ≤ maxLen by simp only [maxLen]; omega)
        have HOD : Hid (∀ o, Below wr.heap.size wr (wr.drew.alloc o)) := Lib.hid fun o => ((Below.refl _ wr).drew).alloc (Nat.le_refl _) _
        clear hm' hm
        simp only [List.length_nil] at *
        go_upto_region 6 with fail
        go_wp2_with (at_builtin; refine wpList_append_own_none rfl _ _ 27 rfl wr.heap.size 3 i0 1 Try.underlying27 hi0 _ 0 [] rfl (World.ownsRow_nil _ _ _ _) rfl ?_)
        go_upto_region 7 with fail
        go_region_law (first
          | (refine step_wp rfl (wp_append_own _ _ _ 27 rfl wr.heap.size 3 i0 _ 1 8 Try.underlying27 hi0 hz0 hz1 hz2 rfl (by decide) (.slice none 0 0) 0 [] rfl (World.ownsRow_nil _ _ _ _) ⟨wr.heap.size, 0, none⟩ 1 1 [.int .i64 v] rfl rfl (one_news (by go_simp)) (by simp [Value.oneCell']) HM1.out (by decide) (HOD.out _).size ?_); intro v2 w2 hown2 hgr2 _)
          | (refine step_append_none rfl _ _ 27 rfl wr.heap.size 3 i0 1 Try.underlying27 hi0 v2 (0 + 1) ([] ++ [.int .i64 v]) rfl hown2 rfl ?_))
        all_goals
          go_wp2
          go_ret
          obtain ⟨A3, c3, rfl, h3⟩ := inn_own (S := [v]) (lo := lo) hown2 rfl
          exact ⟨A3, c3, rfl, h3, HB.out.trans (((HOD.out _).grown hgr2 (HOD.out _).size (fun k hk => by simp [Value.ownBlock] at hk)).mono HB.out.size)⟩
      ·
        obtain ⟨i0, hi0, hz0, hz1, hz2⟩ := info_parts num_info
        have HM1 := Lib.hid (show 0 + S.length ≤ maxLen by simp only [maxLen]; omega)
        have HM2 := Lib.hid (show (0 + S.length) * 8 ≤ 140737488355328 by omega)
        have HM3 := Lib.hid (show S.length + 1 ≤ maxLen by simp only [maxLen]; omega)
        have HM4 := Lib.hid (show (S.length + 1) * 8 ≤ 140737488355328 by omega)
        have HM5 := Lib.hid (show S.length + 1 + 0 ≤ maxLen by simp only [maxLen]; omega)
        have HM6 := Lib.hid (show (S.length + 1 + 0) * 8 ≤ 140737488355328 by omega)
        have HTL := Lib.hid (show S.length = (S.take S.length).length by rw [List.length_take]; omega)
        have HDL := Lib.hid (show 0 = (S.drop S.length).length by simp)
        have HST := Lib.hid (SArr.take HSR.out S.length)
        have HLE := Lib.hid (show S.length ≤ S.length by omega)
        have hle1 : (0 : Int) ≤ S.length ∧ (S.length : Int) ≤ c := by omega
        have hle2 : (S.length : Int) ≤ S.length := by omega
        go_upto_region 6 with fail
        go_wp2_with (at_builtin; refine wpList_append_sarr _ rfl _ _ 27 rfl wr.heap.size 3 i0 _ 8 Try.underlying27 hi0 hz0 hz1 hz2 rfl (.slice none 0 0) 0 [] rfl (World.ownsRow_nil _ _ _ _) _ S.length c (S.take S.length) (Inn wr lo) rfl HTL.out HST.out HM1.out HM2.out (Nat.le_refl _) ?_)
        intro v1 w1 hown hgr1
        try simp only [Nat.zero_add, List.nil_append] at hown
        have HG1 := Lib.hid (grown_nil hgr1)
        have HO1 := Lib.hid (show w1.ownsRow wr.heap.size 3 1 v1 S.length (numC (S.take S.length)) from by first | exact hown | (rw [List.take_length]; exact hown))
        have HOB := Lib.hid (row_block hown)
        obtain ⟨A1, c1, rfl, _⟩ := row_slice hown
        clear hown hgr1
        go_upto_region 7 with fail
        have HODa : Hid (∀ o, Below w1.heap.size w1 (w1.drew.alloc o)) := Lib.hid fun o => ((Below.refl _ w1).drew).alloc (Nat.le_refl _) _
        have HODb : Hid (∀ o, Below w1.heap.size w1 (w1.alloc o).drew) := Lib.hid fun o => ((Below.refl _ w1).alloc (Nat.le_refl _) _).drew
        have HSZ := Lib.hid HG1.out.size
        have HBL : Hid (∀ W, Below w1.heap.size w1 W → Below wr.heap.size wr W) := Lib.hid fun W h => HG1.out.trans (h.mono HSZ.out)
        obtain ⟨ad2, had2⟩ : ∃ ad2, (if c = S.length then some ad else some (ad.add S.length)) = some ad2 := by split <;> exact ⟨_, rfl⟩
        have HSRC : Hid (∀ W, Below wr.heap.size wr W → ∀ (j : Nat) (u : Value), (numC (S.drop S.length))[j]? = some u → W.cell? ((ad2 : Addr).add j) = some u) := Lib.hid fun W hW j u hu => by
          rw [List.drop_length] at hu
          simp [numC] at hu
        go_region_law (first
          | (refine step_wp rfl (wp_append_own _ _ _ 27 rfl wr.heap.size 3 i0 _ 1 8 Try.underlying27 hi0 hz0 hz1 hz2 rfl (by decide) (.slice A1 S.length c1) S.length (numC (S.take S.length)) rfl (ownsRow_keep HO1.out fun g _ _ hl => (show Below w1.heap.size w1 _ from by first | exact HODa.out _ | exact HODb.out _).block g hl) ⟨w1.heap.size, 0, none⟩ 1 1 [.int .i64 v] rfl rfl (one_news (by go_simp)) (by simp [Value.oneCell']) HM3.out HM4.out (Nat.le_trans HSZ.out (show Below w1.heap.size w1 _ from by first | exact HODa.out _ | exact HODb.out _).size) ?_); intro v2 w2 hown2 hgr2 _)
          | (refine step_wp rfl (wp_append_own _ _ _ 27 rfl wr.heap.size 3 i0 _ 1 8 Try.underlying27 hi0 hz0 hz1 hz2 rfl (by decide) v2 (S.length + 1) (numC (S.take S.length) ++ [.int .i64 v]) rfl hown2 ad2 0 (c - S.length) (numC (S.drop S.length)) rfl (by rw [numC_length, Nat.mul_one]; exact HDL.out.symm) (HSRC.out _ ((HBL.out _ (show Below w1.heap.size w1 _ from by first | exact HODa.out _ | exact HODb.out _)).grown hgr2 (HBL.out _ (show Below w1.heap.size w1 _ from by first | exact HODa.out _ | exact HODb.out _)).size HOB.out)) (numC_one _) HM5.out HM6.out (Nat.le_trans (Nat.le_trans HSZ.out (show Below w1.heap.size w1 _ from by first | exact HODa.out _ | exact HODb.out _).size) hgr2.size) ?_); intro v3 w3 hown3 hgr3 _))
        all_goals
          go_wp2
          go_ret
          have hown4 : w3.ownsRow wr.heap.size 3 1 v3 (S.length + 1 + 0) (numC (S.take S.length ++ [v] ++ S.drop S.length)) := by rw [numC_append, numC_append]; exact hown3
          obtain ⟨A3, c3, rfl, h3⟩ := inn_own (lo := lo) hown4 (by simp <;> omega)
          exact ⟨A3, c3, by rw [HWS.out]; rfl, by rw [HWS.out]; exact h3, HB.out.trans ((((HBL.out _ (show Below w1.heap.size w1 _ from by first | exact HODa.out _ | exact HODb.out _)).grown hgr2 (HBL.out _ (show Below w1.heap.size w1 _ from by first | exact HODa.out _ | exact HODb.out _)).size HOB.out).grown hgr3 (Nat.le_trans (HBL.out _ (show Below w1.heap.size w1 _ from by first | exact HODa.out _ | exact HODb.out _)).size hgr2.size) (row_block hown2)).mono HB.out.size)⟩
end Go.Proofs.Ytjkbjbikofindaa
