/-
  Remove of the reference of layer 11: some belts of the call's own.
-/
import Derived.Test.YtkknmphigpcjjaaQcop
import Derived.Deep.RegionLaw
namespace Go.Proofs.Ytkknmphigpcjjaa
open Go.RowKit
set_option maxRecDepth 100000
set_option linter.unusedVariables false

theorem lenQ_set : ∀ (Q : List (List IncR)) (b : Nat) (q q' : List IncR), Q[b]? = some q → q'.length ≤ q.length → lenQ (Q.set b q') ≤ lenQ Q
  | [], b, q, q', h, _ => by simp at h
  | x :: Q, 0, q, q', h, hl => by
    simp at h
    subst h
    simp only [lenQ, List.set_cons_zero, List.flatten_cons, List.length_append]
    omega
  | x :: Q, b + 1, q, q', h, hl => by
    have := lenQ_set Q b q q' (by simpa using h) hl
    simp only [lenQ, List.set_cons_succ, List.flatten_cons, List.length_append] at this ⊢
    omega
/-- What an append of the rest to the beginning leaves of a row. -/
theorem row_cut0 {w : World} {lo g cap k : Nat} {cur : Array Value} {q : List IncR} (hb : lo ≤ g) (hg : w.heap[g]? = some (.cells cur 41 (0, 0))) (hc : q.length ≤ cap) (hm : cap ≤ maxLen) (hs : cur.size = cap * 5) (htk : cur.toList.take (q.length * 5) = incCells q) (hk : k < q.length) :
    (w.setCells g (k * 5) (incCells (q.drop (k + 1)))).ownsRow lo 41 5 (.slice (some ⟨g, 0, none⟩) (q.length - 1) cap) (q.length - 1) (incCells (q.eraseIdx k)) := by
  have hl1 : (incCells (q.drop (k + 1))).length = (q.length - (k + 1)) * 5 := by rw [incCells_length, List.length_drop]
  have he : q.eraseIdx k = q.take k ++ q.drop (k + 1) := List.eraseIdx_eq_take_drop_succ q k
  have hle : (q.eraseIdx k).length = q.length - 1 := by rw [List.length_eraseIdx, if_pos hk]
  refine ⟨by rw [incCells_length, hle], .inr ⟨g, cap, putA cur (k * 5) (incCells (q.drop (k + 1))), rfl, hb, heap_setCells _ _ _ _ hg, by omega, hm, by rw [putA_size, hs], ?_⟩⟩
  refine List.ext_getElem? fun i => ?_
  rw [List.getElem?_take]
  by_cases hi : i < (q.length - 1) * 5
  · rw [if_pos hi, Array.getElem?_toList, putA_get _ _ _ _ (by rw [hl1, hs]; omega), hl1, he, incCells_append]
    have hlt : (incCells (q.take k)).length = k * 5 := by rw [incCells_length, List.length_take]; congr 1; omega
    by_cases hik : i < k * 5
    · rw [if_neg (by omega), List.getElem?_append_left (by omega)]
      have e1 : (incCells q)[i]? = cur[i]? := by
        rw [← htk, List.getElem?_take, if_pos (by omega), Array.getElem?_toList]
      rw [← e1]
      conv => lhs; rw [← List.take_append_drop k q, incCells_append]
      rw [List.getElem?_append_left (by omega)]
    · rw [if_pos (by omega), List.getElem?_append_right (by omega), hlt]
  · rw [if_neg hi, List.getElem?_eq_none (by rw [incCells_length, hle]; omega)]

/-- New belts, no greater ones. -/
def RemB (Q : List (List IncR)) (w : World) (e : Ending) (w' : World) : Prop :=
  ∃ (v : Value) (x : Int) (Q' : List (List IncR)), e = .returned (.tuple #[v, .int .i64 x]) ∧ Rows2 w' w.heap.size v Q' ∧ Q'.length ≤ Q.length ∧ lenQ Q' ≤ lenQ Q ∧ Below w.heap.size w w'

set_option maxHeartbeats 4000000 in
theorem refRemove_any (A : Option Addr) (c : Nat) (Q : List (List IncR)) (x : Int) (w : World) (hQ : QArr w (Lt w.heap.size) A c Q) (hn : Q.length ≤ 4096) (hqn : ∀ q ∈ Q, q.length ≤ 4000) :
    Calls Try.prog 12 #[.slice A Q.length c, .int .i64 x] w (RemB Q w) := by
  obtain ⟨i0, hi0, hz0, hz1, hz2⟩ := info_parts inc_info
  have HQ := Lib.hid hQ
  have HQN := Lib.hid hqn
  clear hQ hqn
  go_enter Try.func12, Try.ntmps12
  go_wp2_with fail
  refine (copyQ_any A c Q w HQ.out hn HQN.out).mono ?_
  rintro e w1 ⟨v, rfl, hr, _, hb⟩
  obtain ⟨Ao, co, rfl, _⟩ := hr.qarr
  have HR := Lib.hid hr
  have HB := Lib.hid hb
  clear hr hb
  go_wp2_with fail
  go_loopw [15] (fun i wr => ∃ t : Nat, t ≤ Q.length ∧ i = .int .i64 t ∧ Below w1.heap.size w1 wr) (fun i _ => Q.length - (intOf i).toNat)
  case atStart => exact ⟨0, by omega, rfl, Below.refl _ _⟩
  case round =>
    obtain ⟨t, ht, rfl, hb⟩ := hrel
    have HB2 := Lib.hid hb
    clear hb
    by_cases hlt : t < Q.length
    · have hlt2 : 0 ≤ (t : Int) ∧ (t : Int) < Q.length := by omega
      obtain ⟨q, hq⟩ := nth_of hlt
      obtain ⟨g, cap, y, e, hlo, hgl, hcy, hyo, hput⟩ := HR.out.get hq
      have eg := e
      clear e
      injection eg with e1 e2 e3
      subst e1
      clear e2 e3
      obtain ⟨Ay, cy, rfl, _⟩ := row_slice hyo
      obtain ⟨Az, cz, ez, hL⟩ := larr_of hyo
      have ez2 := ez
      clear ez
      injection ez2 with f1 f2 f3
      subst f1 f3
      clear f2
      have c0 := (HB2.out.cell (p := ⟨g, t, none⟩) hgl).trans hcy
      have hbz : g < wr.heap.size := cell_lt c0
      have HQE := Lib.hid hq
      have HYO := Lib.hid hyo
      have HPUT := Lib.hid hput
      have HL := Lib.hid hL.lt
      have hql := HQN.out q (List.mem_iff_getElem?.2 ⟨t, hq⟩)
      clear hq hyo hput hL
      go_wp2_with fail
      go_loopw [22] (fun i wr => ∃ u : Nat, u ≤ q.length ∧ i = .int .i64 u ∧ Below w1.heap.size w1 wr) (fun i _ => q.length - (intOf i).toNat)
      case atStart => exact ⟨0, by omega, rfl, HB2.out⟩
      case round =>
        obtain ⟨u, hu, rfl, hb⟩ := hrel
        have HB3 := Lib.hid hb
        clear hb c0
        by_cases hul : u < q.length
        · have hul2 : 0 ≤ (u : Int) ∧ (u : Int) < q.length := by omega
          obtain ⟨i, hi⟩ := nth_of hul
          obtain ⟨bi, oi, rfl, hP, hbz', d0, d1, d2, d3, d4⟩ := (HL.out.next HB3.out).at_ hi
          obtain ⟨x0, hx0⟩ : ∃ x, x = i.sq := ⟨_, rfl⟩
          rw [← hx0] at d0
          obtain ⟨W2, hW2⟩ : ∃ W2, W2 = wr.alloc (.cells #[.int .i64 x0, .int .i64 i.bt, .int .i64 i.fi, .int .i64 i.la, .int .i64 i.wo] 41) := ⟨_, rfl⟩
          have hbW : Below wr.heap.size wr W2 := by rw [hW2]; exact (Below.refl _ _).alloc (Nat.le_refl _) _
          have HBW : Hid (Below w1.heap.size w1 W2) := below_next HB3.out (Nat.le_refl _) hbW
          have HW2 := Lib.hid hW2
          clear hi hP hx0 hW2 hbW
          by_cases hxx : x0 = x
          · have hxb : (x0 == x) = true := by simpa using hxx
            clear hxx
            obtain ⟨hl, ⟨e, h0⟩ | ⟨gy, cap2, cur, e, hb, hg, hc, hm, hs, htk⟩⟩ := HYO.out
            · exact absurd hul (by omega)
            · have ey := e
              clear e
              injection ey with e1 e2 e3
              injection e1 with e1
              injection e1 with e1 e4 e5
              subst e1 e4 e3
              simp only [Nat.zero_add] at d0 d1 d2 d3 d4
              clear e2
              have hgW : W2.heap[bi]? = some (.cells cur 41 (0, 0)) := (HBW.out.block bi (blk_lt hg)).trans hg
              have hcut := row_cut0 (k := u) hb (show W2.drew.heap[bi]? = _ from hgW) hc hm hs htk hul
              have hle : (q.eraseIdx u).length = q.length - 1 := by rw [List.length_eraseIdx, if_pos hul]
              obtain ⟨news, hnews⟩ : ∃ z, z = incCells (q.drop (u + 1)) := ⟨_, rfl⟩
              have hl1 : news.length = (q.length - (u + 1)) * 5 := by rw [hnews, incCells_length, List.length_drop]
              rw [← hnews] at hcut
              have hcell : ∀ i z, (incCells q)[i]? = some z → W2.cell? ⟨bi, i, none⟩ = some z := by
                intro i z hz
                have hi := get_lt hz
                rw [incCells_length] at hi
                rw [cell_row hgW, ← Array.getElem?_toList]
                rw [← htk, List.getElem?_take, if_pos hi] at hz
                exact hz
              simp only [maxLen] at hm
              obtain ⟨W3, hW3⟩ : ∃ W3, W3 = W2.drew.setCells bi (0 + u * 5) news := ⟨_, rfl⟩
              have HW3 := Lib.hid hW3
              have hown3 : W3.ownsRow w.heap.size 41 5 (.slice (some ⟨bi, 0, none⟩) (q.eraseIdx u).length cy) (q.eraseIdx u).length (incCells (q.eraseIdx u)) := by rw [hW3, Nat.zero_add, hle]; exact hcut
              have hgr3 : w1.grownBy W3 (some bi) := by
                rw [hW3]
                have h1 := setCells_row bi news (0 + u * 5) W2.drew
                exact ⟨h1.os.trans HBW.out.os, h1.tape.trans HBW.out.tape, h1.output.trans HBW.out.output, Nat.le_trans HBW.out.size h1.size, fun k hk hn => (h1.block k (Nat.lt_of_lt_of_le hk HBW.out.size) hn).trans (HBW.out.block k hk)⟩
              obtain ⟨s5, sf, sz, hr2⟩ := HPUT.out W3 _ (q.eraseIdx u) hgr3 hown3 (.inl rfl) rfl
              obtain ⟨A, hA, hsrc⟩ : ∃ A : Addr, (if cy = u + 1 then some (⟨bi, 0, none⟩ : Addr) else some ⟨bi, (u + 1) * 5, none⟩) = some A ∧ Hid (∀ t u, news[t]? = some u → W2.drew.cell? (A.add t) = some u) := by
                by_cases h : cy = u + 1
                · refine ⟨⟨bi, 0, none⟩, by simp [h], Lib.hid fun t z hz => ?_⟩
                  have := get_lt hz
                  omega
                · refine ⟨⟨bi, (u + 1) * 5, none⟩, by simp [h], Lib.hid fun t z hz => ?_⟩
                  rw [add_at]
                  refine hcell _ z ?_
                  conv => lhs; rw [← List.take_append_drop (u + 1) q, incCells_append]
                  rw [List.getElem?_append_right (by rw [incCells_length, List.length_take]; omega), incCells_length, List.length_take, show (u + 1) * 5 + t - min (u + 1) q.length * 5 = t by omega, ← hnews]
                  exact hz
              have s1 : Hid (news.length = (q.length - (u + 1)) * 5) := hl1
              have s2 : Hid (∀ u ∈ news, u.oneCell' = true) := Lib.hid (by rw [hnews]; exact incCells_one _)
              have s3 : Hid (∀ t, t < news.length → (W2.drew.cell? ⟨bi, 0 + u * 5 + t, none⟩).isSome = true ∧ W2.drew.frozen? ⟨bi, 0 + u * 5 + t, none⟩ = false) := Lib.hid fun t ht => by
                rw [hl1] at ht
                refine ⟨?_, free_row hgW⟩
                show (W2.cell? _).isSome = true
                rw [cell_row hgW, Array.getElem?_eq_getElem (by omega)]
                rfl
              have hn1 : u + (q.length - (u + 1)) = (q.eraseIdx u).length := by omega
              have HN1 := Lib.hid hn1
              have HR2 := Lib.hid hr2
              have HB6 : Hid (Below w.heap.size w (W3.setCell ⟨g, t, none⟩ (.slice (some ⟨bi, 0, none⟩) (q.eraseIdx u).length cy))) := Lib.hid ((HB.out.grown hgr3 HB.out.size (fun k hk => by injection hk with hk; omega)).setCell (p := ⟨g, t, none⟩) hlo _)
              have HLQ := Lib.hid (lenQ_set Q t q (q.eraseIdx u) HQE.out (by omega))
              have hwu : IntKind.i64.wrap ((u : Int) + 1) = ((u + 1 : Nat) : Int) := by rw [IntWalk.i64_in _ (by omega)]; omega
              have hp0 : (0 : Int) ≤ ((u + 1 : Nat) : Int) := by omega
              have hp1 : ((u + 1 : Nat) : Int) ≤ (q.length : Int) := by omega
              have hp2 : ((u + 1 : Nat) : Int).toNat = u + 1 := by omega
              have hp3 : (0 : Int) ≤ (u : Int) + 1 := by omega
              have hp4 : (u : Int) + 1 ≤ (q.length : Int) := by omega
              have hp5 : ((u : Int) + 1).toNat = u + 1 := by omega
              have hp6 : u ≤ cy := by omega
              have hp7 : u + 1 ≤ cy := by omega
              clear hW3 hown3 hgr3 hgW hcut hcell hnews hl1 hg htk hs hl hr2 hle hn1
              go_wp2_with fail
              rw [← HW2.out]
              go_region_law (refine step_append_room rfl (.tmp 35) (.tmp 39) 31 rfl 41 i0 5 Try.underlying31 hi0 hz1 bi 0 u cy (by simp [Act.eval, Act.put]) A (q.length - (u + 1)) (cy - (u + 1)) news (by simp [Act.eval, Act.put]) s1.out hsrc.out s2.out (by omega) s3.out ?_; rw [← HW3.out])
              rw [HN1.out]
              clear s5 sf hA hwu hp0 hp1 hp2 hp3 hp4 hp5
              go_wp2
              go_ret2
              exact ⟨_, 0, _, rfl, HR2.out, by simp, HLQ.out, HB6.out⟩
          · have hxb : (x0 == x) = false := by simpa using hxx
            clear hxx
            go_wp2
            rw [← HW2.out]
            exact ⟨⟨u + 1, by omega, by go_num, HBW.out⟩, by simp [intOf]; omega⟩
        · have hul2 : ¬ (u : Int) < q.length := by omega
          go_wp2
          exact ⟨⟨t + 1, by omega, by go_num, HB3.out⟩, by simp [intOf]; omega⟩
    · have hlt2 : ¬ (t : Int) < Q.length := by omega
      go_wp2
      go_ret2
      exact ⟨_, 5, [], rfl, ⟨fun _ => .slice none 0 0, World.ownsRow_nil _ _ _ _, fun j q hj => by simp at hj, fun i j x _ hi => by simp at hi⟩, Nat.zero_le _, Nat.zero_le _, below_next HB.out (Nat.le_refl _) HB2.out⟩
end Go.Proofs.Ytkknmphigpcjjaa
