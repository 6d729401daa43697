/-
  Copy and Remove of the reference of layer 11. (Made by mkqcop-s11.py.)
-/
import Derived.Test.YtkknmphigpcjjaaQque
import Derived.Laws.AppendOwnNone
namespace Go.Proofs.Ytkknmphigpcjjaa
open Go.RowKit
set_option maxRecDepth 100000
set_option linter.unusedVariables false

theorem grown_nil {w w1 : World} (h : w.grownBy w1 none) : Below w.heap.size w w1 := ⟨h.os, h.tape, h.output, h.size, fun k hk => h.block k hk (by simp)⟩
/-- One row more behind the others. -/
theorem rows2_push {wr w1 w2 : World} {lo t : Nat} {v v2 y : Value} {Q : List (List IncR)} {q : List IncR} {V : Nat → Value} {o : Obj} (hq : Q[t]? = some q) (hb : Below wr.heap.size wr w1)
    (h2 : ∀ (j : Nat) (x : List IncR), (Q.take t)[j]? = some x → wr.ownsRow lo 41 5 (V j) x.length (incCells x))
    (h3 : ∀ i j x, i ≠ j → i < (Q.take t).length → j < (Q.take t).length → (V i).ownBlock = some x → (V j).ownBlock ≠ some x)
    (hy : w1.ownsRow wr.heap.size 41 5 y q.length (incCells q)) (hyl : ∀ x, y.ownBlock = some x → wr.heap.size ≤ x)
    (hown : w2.ownsRow lo 31 1 v2 (t + 1) ((List.range t).map V ++ [y])) (hgr : (w1.alloc o).grownBy w2 v.ownBlock)
    (h1 : (w1.alloc o).ownsRow lo 31 1 v t ((List.range t).map V)) (hlo : lo ≤ wr.heap.size := by omega) : Rows2 w2 lo v2 (Q.take (t + 1)) := by
  have htl := get_lt hq
  have hlen : (Q.take t).length = t := by simp; omega
  have hlen2 : (Q.take (t + 1)).length = t + 1 := by simp; omega
  have hne : ∀ {s n : Nat} {B : Nat} {z : Value} {xs : List Value}, w1.ownsRow B 41 s z n xs → ∀ x, z.ownBlock = some x → v.ownBlock ≠ some x := by
    intro s n B z xs hz x hx hv
    obtain ⟨_, hh, _⟩ := row_t (hz.alloc o) hx
    obtain ⟨_, hh2, _⟩ := row_t h1 hv
    rw [hh] at hh2
    injection hh2 with hh2
    injection hh2 with _ hh2 _
    exact absurd hh2 (by decide)
  have hkeep : ∀ {s n : Nat} {B : Nat} {z : Value} {xs : List Value}, w1.ownsRow B 41 s z n xs → w2.ownsRow B 41 s z n xs := by
    intro s n B z xs hz
    exact ownsRow_keep (hz.alloc o) fun x hx _ hl => hgr.block x hl (fun e => hne hz x hx e.symm)
  refine ⟨fun j => if j = t then y else V j, ?_, fun j x hj => ?_, fun i j x hij hi hj => ?_⟩
  · rw [hlen2, List.range_succ, List.map_append]
    have e : (List.range t).map (fun j => if j = t then y else V j) = (List.range t).map V := by
      refine List.map_congr_left fun j hj => ?_
      have := List.mem_range.1 hj
      rw [if_neg (by omega)]
    rw [e]
    simpa using hown
  · rcases (by have := get_lt hj; omega : j < t ∨ j = t) with e | e
    · rw [List.getElem?_take, if_pos (by omega)] at hj
      simp only [if_neg (show ¬ j = t by omega)]
      have h := h2 j x (by rw [List.getElem?_take, if_pos e]; exact hj)
      exact hkeep (ownsRow_keep h fun g _ _ hl => hb.block g hl)
    · subst e
      rw [List.getElem?_take, if_pos (by omega), hq] at hj
      injection hj with hj
      subst hj
      simp only [if_pos]
      exact ownsRow_lower (hkeep hy) hlo
  · rw [hlen2] at hi hj
    have low : ∀ k z, k < t → (V k).ownBlock = some z → z < wr.heap.size := fun k z hk hz => by
      obtain ⟨qk, hqk⟩ := nth_of (l := Q.take t) (j := k) (by omega)
      exact ((h2 k qk hqk).lt z hz).2
    by_cases e : i = t
    · subst e
      simp only [if_pos]
      rw [if_neg (fun e2 => hij e2.symm)]
      intro hx hx2
      have := hyl x hx
      have := low j x (by omega) hx2
      omega
    · simp only [if_neg e]
      by_cases e2 : j = t
      · subst e2
        simp only [if_pos]
        intro hx hx2
        have := hyl x hx2
        have := low i x (by omega) hx
        omega
      · simp only [if_neg e2]
        exact h3 i j x hij (by omega) (by omega)

set_option maxHeartbeats 4000000 in
theorem copyQ_any (A : Option Addr) (c : Nat) (Q : List (List IncR)) (w : World) (hQ : QArr w (Lt w.heap.size) A c Q) (hn : Q.length ≤ 4096) (hqn : ∀ q ∈ Q, q.length ≤ 4000) :
    Calls Try.prog 15 #[.slice A Q.length c] w (GivesBelts Q w) := by
  obtain ⟨j0, hj0, hy0, hy1, hy2⟩ := info_parts rows_info
  obtain ⟨i0, hi0, hz0, hz1, hz2⟩ := info_parts inc_info
  have HQ := Lib.hid hQ
  have HQN := Lib.hid hqn
  clear hQ hqn
  go_enter Try.func15, Try.ntmps15
  go_wp2_with fail
  go_loopw [3, 8] (fun v i wr => ∃ t : Nat, t ≤ Q.length ∧ i = .int .i64 t ∧ Rows2 wr w.heap.size v (Q.take t) ∧ Below w.heap.size w wr) (fun _ i _ => Q.length - (intOf i).toNat)
  case atStart => exact ⟨0, by omega, rfl, ⟨fun _ => .slice none 0 0, World.ownsRow_nil _ _ _ _, fun j q hj => by simp at hj, fun i j x _ hi => by simp at hi⟩, Below.refl _ _⟩
  case round =>
    obtain ⟨t, ht, rfl, hr, hb⟩ := hrel
    have HR := Lib.hid hr
    have HB := Lib.hid hb
    clear hr hb
    by_cases hlt : t < Q.length
    · have hlt2 : 0 ≤ (t : Int) ∧ (t : Int) < Q.length := by omega
      obtain ⟨q, hq⟩ := nth_of hlt
      obtain ⟨b, o, Ai, ci, rfl, hP, _, c0', hL⟩ := HQ.out.at_ hq
      have c0 := (HB.out.cell (p := ⟨b, o + t, none⟩) hP).trans c0'
      have hbz : b < wr.heap.size := cell_lt c0
      have HL := Lib.hid (hL.below HB.out)
      have HQE := Lib.hid hq
      have hqn := HQN.out q (List.mem_iff_getElem?.2 ⟨t, hq⟩)
      have HM1 := Lib.hid (show t + 1 ≤ maxLen by simp only [maxLen]; omega)
      have HM2 := Lib.hid (show (t + 1) * 24 ≤ 140737488355328 by omega)
      have hin : ∀ k, (Value.slice none 0 0).ownBlock = some k → wr.heap.size ≤ k := fun k hk => by simp [Value.ownBlock] at hk
      clear hq hP hL c0'
      rcases Ai with _ | ad
      · have hc := HL.out.2.2.1 rfl
        have hl0 := HL.out.1
        have hI : q = [] := List.length_eq_zero_iff.1 (by omega)
        subst hI hc
        have HGN : Hid (Below wr.heap.size wr wr) := Lib.hid (Below.refl _ _)
        have hown : wr.ownsRow wr.heap.size 41 5 (.slice none 0 0) ([] : List IncR).length (incCells []) := World.ownsRow_nil _ _ _ _
        obtain ⟨V, h1, h2, h3⟩ := HR.out
        have H1 := Lib.hid (World.ownsRow.alloc (ownsRow_keep (w' := wr) h1 fun g _ _ hl => HGN.out.block g hl) (.cells #[.slice none 0 0] 31))
        have hy' := Lib.hid hown
        have HYL := Lib.hid (show ∀ x, (Value.slice none 0 0).ownBlock = some x → wr.heap.size ≤ x from fun x hx => (hown.lt x hx).1)
        have HNEW : Hid (∀ (j : Nat) (u : Value), [Value.slice none 0 0][j]? = some u → (wr.alloc (.cells #[.slice none 0 0] 31)).cell? ((⟨wr.heap.size, 0, none⟩ : Addr).add j) = some u) := Lib.hid (one_news (by go_simp))
        have HTT := Lib.hid (show (Q.take t).length = t by simp; omega)
        have H1' : Hid ((wr.alloc (.cells #[.slice none 0 0] 31)).ownsRow w.heap.size 31 1 u3 t ((List.range t).map V)) := Lib.hid (by have h := H1.out; rw [HTT.out] at h; exact h)
        have hsz1 : wr.heap.size ≤ wr.heap.size := HGN.out.size
        have hszw : w.heap.size ≤ wr.heap.size := HB.out.size
        have HBS := Lib.hid (show w.heap.size ≤ (wr.alloc (.cells #[.slice none 0 0] 31)).heap.size by simp; omega)
        have HOB := Lib.hid (row_block H1'.out)
        clear hown h1 H1
        go_wp2_with (at_builtin; refine wpList_append_at _ rfl _ _ 26 rfl w.heap.size 31 j0 _ 1 24 Try.underlying26 hj0 hy0 hy1 hy2 rfl (by decide) u3 t ((List.range t).map V) rfl H1'.out ⟨wr.heap.size, 0, none⟩ 1 1 [Value.slice none 0 0] rfl rfl HNEW.out (by simp [Value.oneCell']) HM1.out HM2.out HBS.out ?_)
        intro v2 w2 hown2 hgr2 _
        have HR2 := Lib.hid (rows2_push HQE.out (show Below wr.heap.size wr wr from HGN.out) (h2 := h2) (h3 := h3) hy'.out HYL.out hown2 hgr2 H1'.out)
        have HB2 : Hid (Below w.heap.size w w2) := Lib.hid ((((below_next HB.out (Nat.le_refl _) HGN.out).alloc (by omega) (.cells #[.slice none 0 0] 31))).grown hgr2 HBS.out HOB.out)
        clear hown2 hgr2 h2 h3
        go_wp2
        exact ⟨⟨t + 1, by omega, by go_num, HR2.out, HB2.out⟩, by simp [intOf]; omega⟩
      · have hcs : ∀ (j : Nat) (u : Value), (incCells q)[j]? = some u → wr.cell? (ad.add j) = some u := by
          intro j u hu
          have hj := get_lt hu
          rw [incCells_length] at hj
          obtain ⟨b, o, e, _⟩ := HL.out.2.2.2 (by omega)
          injection e with e
          subst e
          exact HL.out.cells j u hu
        have HC := Lib.hid hcs
        have HLN := Lib.hid (incCells_length q)
        have HN1 := Lib.hid (show 0 + q.length ≤ maxLen by simp only [maxLen]; omega)
        have HN2 := Lib.hid (show (0 + q.length) * 40 ≤ 140737488355328 by omega)
        clear hcs
        go_wp2_with (at_builtin; refine wpList_append_own _ rfl _ _ 31 rfl wr.heap.size 41 i0 _ 5 40 Try.underlying31 hi0 hz0 hz1 hz2 rfl (by decide) (.slice none 0 0) 0 [] rfl (World.ownsRow_nil _ _ _ _) ad q.length ci (incCells q) rfl HLN.out HC.out (incCells_one q) HN1.out HN2.out (Nat.le_refl _) ?_)
        intro v1 w1 hown hgrN _
        try simp only [Nat.zero_add, List.nil_append] at hown
        obtain ⟨Ay, cy, rfl, _⟩ := row_slice hown
        have HGN := Lib.hid (grown_nil hgrN)
        obtain ⟨V, h1, h2, h3⟩ := HR.out
        have H1 := Lib.hid (World.ownsRow.alloc (ownsRow_keep (w' := w1) h1 fun g _ _ hl => HGN.out.block g hl) (.cells #[.slice Ay q.length cy] 31))
        have hy' := Lib.hid hown
        have HYL := Lib.hid (show ∀ x, (Value.slice Ay q.length cy).ownBlock = some x → wr.heap.size ≤ x from fun x hx => (hown.lt x hx).1)
        have HNEW : Hid (∀ (j : Nat) (u : Value), [Value.slice Ay q.length cy][j]? = some u → (w1.alloc (.cells #[.slice Ay q.length cy] 31)).cell? ((⟨w1.heap.size, 0, none⟩ : Addr).add j) = some u) := Lib.hid (one_news (by go_simp))
        have HTT := Lib.hid (show (Q.take t).length = t by simp; omega)
        have H1' : Hid ((w1.alloc (.cells #[.slice Ay q.length cy] 31)).ownsRow w.heap.size 31 1 u3 t ((List.range t).map V)) := Lib.hid (by have h := H1.out; rw [HTT.out] at h; exact h)
        have hsz1 : wr.heap.size ≤ w1.heap.size := HGN.out.size
        have hszw : w.heap.size ≤ wr.heap.size := HB.out.size
        have HBS := Lib.hid (show w.heap.size ≤ (w1.alloc (.cells #[.slice Ay q.length cy] 31)).heap.size by simp; omega)
        have HOB := Lib.hid (row_block H1'.out)
        clear hown hgrN h1 H1
        go_wp2_with (at_builtin; refine wpList_append_at _ rfl _ _ 26 rfl w.heap.size 31 j0 _ 1 24 Try.underlying26 hj0 hy0 hy1 hy2 rfl (by decide) u3 t ((List.range t).map V) rfl H1'.out ⟨w1.heap.size, 0, none⟩ 1 1 [Value.slice Ay q.length cy] rfl rfl HNEW.out (by simp [Value.oneCell']) HM1.out HM2.out HBS.out ?_)
        intro v2 w2 hown2 hgr2 _
        have HR2 := Lib.hid (rows2_push HQE.out (show Below wr.heap.size wr w1 from HGN.out) (h2 := h2) (h3 := h3) hy'.out HYL.out hown2 hgr2 H1'.out)
        have HB2 : Hid (Below w.heap.size w w2) := Lib.hid ((((below_next HB.out (Nat.le_refl _) HGN.out).alloc (by omega) (.cells #[.slice Ay q.length cy] 31))).grown hgr2 HBS.out HOB.out)
        clear hown2 hgr2 h2 h3
        go_wp2
        exact ⟨⟨t + 1, by omega, by go_num, HR2.out, HB2.out⟩, by simp [intOf]; omega⟩
    · have hlt2 : ¬ (t : Int) < Q.length := by omega
      obtain rfl : t = Q.length := by omega
      have HR2 : Hid (Rows2 wr w.heap.size u3 Q) := Lib.hid (by have h := HR.out; rwa [List.take_length] at h)
      go_wp2
      go_ret
      obtain ⟨A2, c2, e2, _⟩ := HR2.out.qarr
      exact ⟨_, rfl, HR2.out, by rw [e2]; rfl, HB.out⟩
end Go.Proofs.Ytkknmphigpcjjaa
