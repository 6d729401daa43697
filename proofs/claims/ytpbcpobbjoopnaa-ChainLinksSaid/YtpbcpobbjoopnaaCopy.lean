/-
  Contracts of the references: Clone, Copy.
-/
import Derived.Test.YtpbcpobbjoopnaaPool
import Derived.Deep.RegionHeld3
namespace Go.Proofs.Ytpbcpobbjoopnaa
open Go.RowKit
set_option linter.unusedVariables false

/-- A slice of n words that read as f, made by the call. -/
def GivesOwn (n : Nat) (f : Nat → Int) (w : World) (e : Ending) (w' : World) : Prop :=
  ∃ A c, e = .returned (.slice A n c) ∧ Own w' w.heap.size A n c f ∧ Below w.heap.size w w'

theorem news_words {w : World} {B n c : Nat} {x : Addr} {f : Nat → Int} (h : Arr w B (some x) n c f) : ∀ j u, (wordsOf n f)[j]? = some u → w.cell? (x.add j) = some u := by
  intro j u hu
  obtain ⟨hj, rfl⟩ := wordsOf_get' hu
  obtain ⟨b, o, hA, _, hc⟩ := h.2.2.2 (by omega)
  injection hA with hA
  subst hA
  rw [add_at]
  exact hc j hj

theorem clone_any (A : Option Addr) (n c : Nat) (f : Nat → Int) (w : World) (h : Arr w w.heap.size A n c f) (hn : n ≤ 1048576) :
    Calls Try.prog 48 #[.slice A n c] w (GivesOwn n f w) := by
  obtain ⟨i0, hi0, hz0, hz1, hz2⟩ := info_parts word_info
  rcases A with _ | x
  · have hc : c = 0 := h.2.2.1 rfl
    have h1 := h.1
    obtain rfl : n = 0 := by omega
    subst hc
    clear h h1
    go_enter Try.func48, Try.ntmps48
    go_wp2_with (at_builtin; refine wpList_append_own_none _ rfl _ _ _ rfl w.heap.size 67 i0 _ Try.underlying22 hi0 hz0 (.slice none 0 0) 0 [] rfl (World.ownsRow_nil _ _ _ _) ?_)
    go_ret
    exact ⟨none, 0, rfl, Own.nil_ _ _ _, Below.refl _ _⟩
  · have hc := news_words h
    have HC := Lib.hid hc
    clear h hc
    go_enter Try.func48, Try.ntmps48
    go_wp2_with (at_builtin; refine wpList_append_own _ rfl _ _ 22 rfl w.heap.size 67 i0 _ 1 8 Try.underlying22 hi0 hz0 hz1 hz2 rfl (by decide) _ 0 [] rfl (World.ownsRow_nil _ _ _ _) x n c (wordsOf n f) rfl (by simp [wordsOf]) HC.out (wordsOf_one n f) (by simp only [maxLen]; omega) (by omega) (Nat.le_refl _) ?_)
    intro v1 w1 hown hg _
    obtain ⟨A1, c1, rfl, ho⟩ := own_of_row hown (fun j hj => wordsOf_get n f j hj)
    have HO := Lib.hid ho
    have HG := Lib.hid hg
    clear ho hg hown
    go_wp2
    go_ret
    exact ⟨A1, c1, rfl, HO.out, (Below.refl _ _).grown HG.out (Nat.le_refl _) (by simp [Value.ownBlock])⟩

/-- The cells of a table, one after the other. -/
def tabList (n : Nat) (F : Nat → Fr) : List Value := (List.range n).flatMap fun j => [.int .i64 (F j).ow, .int .i64 (F j).st, .int .i64 (F j).nx]
theorem tabList_succ (n : Nat) (F : Nat → Fr) : tabList (n + 1) F = tabList n F ++ [.int .i64 (F n).ow, .int .i64 (F n).st, .int .i64 (F n).nx] := by simp [tabList, List.range_succ]
theorem tabList_length : ∀ (n : Nat) (F : Nat → Fr), (tabList n F).length = n * 3
  | 0, F => rfl
  | n + 1, F => by rw [tabList_succ, List.length_append, tabList_length n F]; simp; omega
theorem tabList_get : ∀ (n : Nat) (F : Nat → Fr) (j : Nat), j < n → (tabList n F)[j * 3]? = some (.int .i64 (F j).ow) ∧ (tabList n F)[j * 3 + 1]? = some (.int .i64 (F j).st) ∧ (tabList n F)[j * 3 + 2]? = some (.int .i64 (F j).nx)
  | 0, F, j, h => absurd h (by omega)
  | n + 1, F, j, h => by
    have hl := tabList_length n F
    rw [tabList_succ]
    rcases (show j < n ∨ j = n by omega) with h1 | rfl
    · obtain ⟨a, b, c⟩ := tabList_get n F j h1
      rw [List.getElem?_append_left (by omega), List.getElem?_append_left (by omega), List.getElem?_append_left (by omega)]
      exact ⟨a, b, c⟩
    · rw [List.getElem?_append_right (by omega), List.getElem?_append_right (by omega), List.getElem?_append_right (by omega), hl]
      have e0 : j * 3 - j * 3 = 0 := by omega
      have e1 : j * 3 + 1 - j * 3 = 1 := by omega
      have e2 : j * 3 + 2 - j * 3 = 2 := by omega
      rw [e0, e1, e2]
      exact ⟨rfl, rfl, rfl⟩
theorem tabList_one (n : Nat) (F : Nat → Fr) : ∀ u ∈ tabList n F, u.oneCell' = true := by
  intro u hu
  simp only [tabList, List.mem_flatMap] at hu
  obtain ⟨j, _, hj⟩ := hu
  simp at hj
  rcases hj with rfl | rfl | rfl <;> rfl
theorem tabList_cells {w : World} {B n c b o : Nat} {F : Nat → Fr} (h : Tab w B (some ⟨b, o, none⟩) n c F) : ∀ j u, (tabList n F)[j]? = some u → w.cell? ((⟨b, o, none⟩ : Addr).add j) = some u := by
  intro j u hu
  have hl := tabList_length n F
  have hj : j < n * 3 := by
    rcases Nat.lt_or_ge j (n * 3) with h1 | h1
    · exact h1
    · rw [List.getElem?_eq_none (by omega)] at hu; cases hu
  obtain ⟨_, c0, c1, c2⟩ := h.cells (j / 3) (by omega)
  obtain ⟨g0, g1, g2⟩ := tabList_get n F (j / 3) (by omega)
  rw [add_at]
  rcases (show j = j / 3 * 3 ∨ j = j / 3 * 3 + 1 ∨ j = j / 3 * 3 + 2 by omega) with e | e | e
  · rw [e] at hu ⊢; rw [g0] at hu; injection hu with hu; rw [← hu]; exact c0
  · rw [e] at hu ⊢; rw [g1] at hu; injection hu with hu; rw [← hu, ← Nat.add_assoc]; exact c1
  · rw [e] at hu ⊢; rw [g2] at hu; injection hu with hu; rw [← hu, ← Nat.add_assoc]; exact c2

/-- What append leaves, as a table of the call's own. -/
theorem ownT_of_row {w : World} {base : Nat} {v : Value} {n : Nat} {F : Nat → Fr} (h : w.ownsRow base 64 3 v n (tabList n F)) (hn : 0 < n) :
    ∃ g c, v = .slice (some ⟨g, 0, none⟩) n c ∧ OwnT w base (some ⟨g, 0, none⟩) n c F := by
  obtain ⟨hl, h⟩ := h
  rcases h with ⟨rfl, rfl⟩ | ⟨g, cap, cur, rfl, hb, hg, hn2, hm, hs, ht⟩
  · omega
  · refine ⟨g, cap, rfl, hn2, hm, .inr ⟨g, cur, rfl, hb, hg, hs, fun j hj => ?_⟩⟩
    obtain ⟨g0, g1, g2⟩ := tabList_get n F j hj
    have key : ∀ (i : Nat) (u : Value), (tabList n F)[i]? = some u → cur[i]? = some u := by
      intro i u hu
      have hi : i < n * 3 := by
        rcases Nat.lt_or_ge i (n * 3) with h1 | h1
        · exact h1
        · rw [List.getElem?_eq_none (by rw [tabList_length]; omega)] at hu; cases hu
      rw [← ht, List.getElem?_take, if_pos hi] at hu
      simpa using hu
    exact ⟨key _ _ g0, key _ _ g1, key _ _ g2⟩

/-- A new space that reads as the old one. -/
def CopyOf (k : Int) (nw n : Nat) (wd : Nat → Int) (F : Nat → Fr) (w : World) (e : Ending) (w' : World) : Prop :=
  ∃ A c g c', e = .returned (.agg #[.int .i64 k, .slice A nw c, .slice (some ⟨g, 0, none⟩) n c']) ∧ Own w' w.heap.size A nw c wd ∧ OwnT w' w.heap.size (some ⟨g, 0, none⟩) n c' F ∧ Below w.heap.size w w'

set_option maxHeartbeats 1000000 in
theorem copy_any (k : Int) (A A' : Option Addr) (nw c n c' : Nat) (wd : Nat → Int) (F : Nat → Fr) (w : World) (hA : Arr w w.heap.size A nw c wd) (hT : Tab w w.heap.size A' n c' F) (hn : n ≤ 4096) (hn0 : 0 < n) (hw : nw ≤ 1048576) :
    Calls Try.prog 29 #[.agg #[.int .i64 k, .slice A nw c, .slice A' n c']] w (CopyOf k nw n wd F w) := by
  obtain ⟨i0, hi0, hz0, hz1, hz2⟩ := info_parts frame_info
  obtain ⟨b, o, rfl, hbb⟩ := hT.base_ hn0
  have HA := Lib.hid hA
  have HT := Lib.hid hT
  obtain ⟨U, hU⟩ : ∃ U, U = (w.alloc (.cells #[.int .i64 k, .slice A nw c, .slice (some ⟨b, o, none⟩) n c'] 25)).alloc (.cells #[.int .i64 0, .slice none 0 0, .slice none 0 0] 25) := ⟨_, rfl⟩
  have BU : Blk U w.heap.size 25 #[.int .i64 k, .slice A nw c, .slice (some ⟨b, o, none⟩) n c'] := by rw [hU]; exact (Blk.new _ _ _).alloc _
  have BR : Blk U (w.heap.size + 1) 25 #[.int .i64 0, .slice none 0 0, .slice none 0 0] := by rw [hU]; exact Blk.newAt _ _ _ _ (by simp)
  have HBU : Hid (Below w.heap.size w U) := by rw [hU]; exact ((Below.refl _ _).alloc (Nat.le_refl _) _).alloc (by simp) _
  have HU := Lib.hid hU
  have p0 := BU.cell 0
  have p1 := BU.cell 1
  have p2 := BU.cell 2
  simp at p0 p1 p2
  have z1 : w.heap.size < U.heap.size := BU.lt
  have z2 : w.heap.size + 1 < U.heap.size := BR.lt
  have hau : Arr U U.heap.size A nw c wd := HA.out.next HBU.out
  have HAD : Hid (Arr U.drew U.drew.heap.size A nw c wd) := hau
  clear hau
  have htu : Tab U U.heap.size (some ⟨b, o, none⟩) n c' F := HT.out.next HBU.out
  have HTD : Hid (Tab U.drew U.drew.heap.size (some ⟨b, o, none⟩) n c' F) := htu
  clear htu
  have BRD : Blk U.drew (w.heap.size + 1) 25 #[.int .i64 0, .slice none 0 0, .slice none 0 0] := BR
  clear hA hT hU
  go_enter Try.func29, Try.ntmps29
  go_wp2
  rw [← HU.out]
  go_region_held3 (fun w' => w'.cell? ⟨w.heap.size, 0, none⟩ = some (.int .i64 k) ∧ w'.cell? ⟨w.heap.size, 1, none⟩ = some (.slice A nw c) ∧ w'.cell? ⟨w.heap.size, 2, none⟩ = some (.slice (some ⟨b, o, none⟩) n c'))
    (first | exact ⟨p0, p1, p2⟩ | exact ⟨a0, a1, a2⟩ | exact ⟨b0, b1, b2⟩ | go_keep)
    (first
      | (go_at_call 48; refine (clone_any A nw c wd _ HAD.out hw).mono ?_; rintro e wa ⟨A1, c1, rfl, ho, hba⟩; have a0 := (hba.cell (p := ⟨w.heap.size, 0, none⟩) z1).trans p0; have a1 := (hba.cell (p := ⟨w.heap.size, 1, none⟩) z1).trans p1; have a2 := (hba.cell (p := ⟨w.heap.size, 2, none⟩) z1).trans p2; have za : w.heap.size < wa.heap.size := Nat.lt_of_lt_of_le z1 hba.size; have Ba := BRD.next hba; have zRa := Ba.lt; have ra0 := Ba.cell 0; have ra1 := Ba.cell 1; have ra2 := Ba.cell 2; simp at ra0 ra1 ra2; have fa0 := Ba.frozen 0; have fa1 := Ba.frozen 1; have fa2 := Ba.frozen 2)
      | (go_at_call 48; refine (clone_any A nw c wd _ (HAD.out.next hbb2) hw).mono ?_; rintro e wa ⟨A1, c1, rfl, ho, hba⟩; have a0 := (hba.cell (p := ⟨w.heap.size, 0, none⟩) zb).trans b0; have a1 := (hba.cell (p := ⟨w.heap.size, 1, none⟩) zb).trans b1; have a2 := (hba.cell (p := ⟨w.heap.size, 2, none⟩) zb).trans b2; have za : w.heap.size < wa.heap.size := Nat.lt_of_lt_of_le zb hba.size; have Ba := Bb.next hba; have zRa := Ba.lt; have ra0 := Ba.cell 0; have ra1 := Ba.cell 1; have ra2 := Ba.cell 2; simp at ra0 ra1 ra2; have fa0 := Ba.frozen 0; have fa1 := Ba.frozen 1; have fa2 := Ba.frozen 2)
      | (rw [if_pos (by rfl)]; refine wp_append_own _ (.const (.slice none 0 0)) (.tmp 9) 23 rfl U.drew.heap.size 64 i0 _ 3 24 Try.underlying23 hi0 hz0 hz1 hz2 rfl (by decide) (.slice none 0 0) 0 [] rfl (World.ownsRow_nil _ _ _ _) ⟨b, o, none⟩ n c' (tabList n F) rfl (tabList_length n F) (tabList_cells HTD.out) (tabList_one n F) (by simp only [maxLen]; omega) (by omega) (Nat.le_refl _) ?_; intro vb wb hown hgr _; rw [Nat.zero_add, List.nil_append] at hown; obtain ⟨gt, ct, rfl, htab⟩ := ownT_of_row hown hn0; have hbb2 := (Below.refl _ _).grown hgr (Nat.le_refl _) (by simp [Value.ownBlock]); have b0 := (hbb2.cell (p := ⟨w.heap.size, 0, none⟩) z1).trans p0; have b1 := (hbb2.cell (p := ⟨w.heap.size, 1, none⟩) z1).trans p1; have b2 := (hbb2.cell (p := ⟨w.heap.size, 2, none⟩) z1).trans p2; have zb : w.heap.size < wb.heap.size := Nat.lt_of_lt_of_le z1 hbb2.size; have Bb := BRD.next hbb2; have zRb := Bb.lt; have rb0 := Bb.cell 0; have rb1 := Bb.cell 1; have rb2 := Bb.cell 2; simp at rb0 rb1 rb2; have fb0 := Bb.frozen 0; have fb1 := Bb.frozen 1; have fb2 := Bb.frozen 2)
      | (rw [if_pos (by rfl)]; refine wp_append_own _ (.const (.slice none 0 0)) (.tmp 9) 23 rfl wa.heap.size 64 i0 _ 3 24 Try.underlying23 hi0 hz0 hz1 hz2 rfl (by decide) (.slice none 0 0) 0 [] rfl (World.ownsRow_nil _ _ _ _) ⟨b, o, none⟩ n c' (tabList n F) rfl (tabList_length n F) (tabList_cells (HTD.out.next hba)) (tabList_one n F) (by simp only [maxLen]; omega) (by omega) (Nat.le_refl _) ?_; intro vb wb hown hgr _; rw [Nat.zero_add, List.nil_append] at hown; obtain ⟨gt, ct, rfl, htab⟩ := ownT_of_row hown hn0; have hbb2 := (Below.refl _ _).grown hgr (Nat.le_refl _) (by simp [Value.ownBlock]); have b0 := (hbb2.cell (p := ⟨w.heap.size, 0, none⟩) za).trans a0; have b1 := (hbb2.cell (p := ⟨w.heap.size, 1, none⟩) za).trans a1; have b2 := (hbb2.cell (p := ⟨w.heap.size, 2, none⟩) za).trans a2; have zb : w.heap.size < wb.heap.size := Nat.lt_of_lt_of_le za hbb2.size; have Bb := Ba.next hbb2; have zRb := Bb.lt; have rb0 := Bb.cell 0; have rb1 := Bb.cell 1; have rb2 := Bb.cell 2; simp at rb0 rb1 rb2; have fb0 := Bb.frozen 0; have fb1 := Bb.frozen 1; have fb2 := Bb.frozen 2))
  have hud : Below w.heap.size w U.drew := HBU.out.drew
  have HBB := Lib.hid (below_next (below_next hud (Nat.le_refl _) hba) (Nat.le_refl _) hbb2)
  have hur : U.drew.heap.size ≤ wa.heap.size := hba.size
  have z3 : w.heap.size + 1 < wa.heap.size := Nat.lt_of_lt_of_le z2 hur
  have HO2 := Lib.hid (ho.below hbb2)
  have HTA := Lib.hid htab
  clear ho htab hba hbb2 hown hgr hud
  go_wp2
  refine bodyPost_ret (v := .agg #[.int .i64 k, .slice A1 nw c1, .slice (some ⟨gt, 0, none⟩) n ct]) (by simp [results, Try.results29, go_sem, rb0, rb1, rb2]) rfl ⟨_, _, _, _, rfl, ?_, ?_, ?_⟩
  · exact (HO2.out.put3 z2 _ _ _).lower (show w.heap.size ≤ U.drew.heap.size from Nat.le_of_lt z1)
  · exact (HTA.out.put3 z3 _ _ _).lower (Nat.le_of_lt za)
  · exact below_put3 HBB.out (by omega) _ _ _
end Go.Proofs.Ytpbcpobbjoopnaa
