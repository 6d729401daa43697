/-
  Package remset as it landed: sets deleted in place; Drop.
-/
import Derived.Test.YtjkbjbikofindaaRDf
namespace Go.Proofs.Ytjkbjbikofindaa
open Go.RowKit Go.Maps
set_option maxRecDepth 100000
set_option linter.unusedVariables false

/-- A set that has one of the frames. -/
def delB (F : List Int) (x : SetR) : Bool := decide (x.fr ∈ F) || decide (x.tg ∈ F)
def keepL (F : List Int) (L : List SetR) : List SetR := L.filter fun x => !delB F x
theorem keepL_eq (F : List Int) (L : List SetR) : keepL F L = drpS F L := by
  unfold keepL drpS delB
  congr 1
  funext x
  simp
theorem keepL_snoc (F : List Int) (L : List SetR) {j : Nat} {x : SetR} (h : L[j]? = some x) : keepL F (L.take (j + 1)) = if delB F x = true then keepL F (L.take j) else keepL F (L.take j) ++ [x] := by
  unfold keepL
  rw [List.take_add_one, h, List.filter_append]
  cases hd : delB F x <;> simp [hd]
theorem keepL_all {F : List Int} {L : List SetR} (h : ∀ x ∈ L, delB F x = false) : keepL F L = L := by
  unfold keepL
  rw [List.filter_eq_self]
  intro x hx
  rw [h x hx]
  rfl

set_option maxHeartbeats 1000000 in
theorem dropClo_any (x : SetR) (A1 : Option Addr) (c1 b p : Nat) (F : List Int) (w : World) (hE : Elems w b F) (hp : w.cell? ⟨p, 0, none⟩ = some (.map (some b))) (h1 : in64 x.fr) (h2 : in64 x.tg) :
    Calls Try.prog 55 #[.agg #[.int .i64 x.fr, .int .i64 x.tg, .slice A1 x.sl.length c1], .pointer (some ⟨p, 0, none⟩)] w fun e w' => e = .returned (.bool (delB F x)) ∧ Below w.heap.size w w' := by
  obtain ⟨U, hU⟩ : ∃ U, U = w.alloc (.cells #[.int .i64 x.fr, .int .i64 x.tg, .slice A1 x.sl.length c1] 57) := ⟨_, rfl⟩
  have B1 : Blk U w.heap.size 57 #[.int .i64 x.fr, .int .i64 x.tg, .slice A1 x.sl.length c1] := by rw [hU]; exact Blk.new _ _ _
  have hb : Below w.heap.size w U := by rw [hU]; exact (Below.refl _ _).alloc (Nat.le_refl _) _
  have HBU := Lib.hid hb
  have HU := Lib.hid hU
  have p0 := B1.cell 0
  have p1 := B1.cell 1
  simp at p0 p1
  have pm : U.cell? ⟨p, 0, none⟩ = some (.map (some b)) := (hb.cell (p := ⟨p, 0, none⟩) (cell_lt hp)).trans hp
  have hEU := hE.next hb
  have k1 := hEU.look h1
  have k2 := hEU.look h2
  obtain ⟨q1, hq1⟩ : ∃ q, decide (x.fr ∈ F) = q := ⟨_, rfl⟩
  obtain ⟨q2, hq2⟩ : ∃ q, decide (x.tg ∈ F) = q := ⟨_, rfl⟩
  have HD : Hid (delB F x = (q1 || q2)) := Lib.hid (by unfold delB; rw [hq1, hq2])
  rw [hq1] at k1
  rw [hq2] at k2
  rw [HD.out]
  clear hU B1 hb hEU hE hq1 hq2
  go_enter Try.func55, Try.ntmps55
  go_upto_region 1 with fail
  rw [← HU.out]
  cases q1 with
  | true =>
    go_wp2_with fail
    go_ret
    exact ⟨rfl, HBU.out⟩
  | false =>
    go_wp2_with fail
    go_ret
    exact ⟨rfl, HBU.out⟩

/-- The first set that has one of the frames. -/
def FirstDel (F : List Int) (L : List SetR) (w : World) (e : Ending) (w' : World) : Prop := Below w.heap.size w w' ∧ ((∃ k : Nat, e = .returned (.int .i64 k) ∧ k < L.length ∧ keepL F (L.take (k + 1)) = L.take k) ∨ (e = .returned (.int .i64 (-1)) ∧ keepL F L = L))
set_option maxHeartbeats 2000000 in
theorem indexT_any (A : Option Addr) (c b p : Nat) (L : List SetR) (F : List Int) (w : World) (hL : TArr w (Lt w.heap.size) A c L) (hE : Elems w b F) (hp : w.cell? ⟨p, 0, none⟩ = some (.map (some b))) (hi : ∀ x ∈ L, in64 x.fr ∧ in64 x.tg) :
    Calls Try.prog 73 #[.slice A L.length c, .func (.func 55) #[] #[.pointer (some ⟨p, 0, none⟩)]] w (FirstDel F L w) := by
  have HL := Lib.hid hL
  have HE := Lib.hid hE
  have HP := Lib.hid hp
  have HI := Lib.hid hi
  have hm := hL.2.1
  have hm' := hL.1
  simp only [maxLen] at hm
  clear hL hE hp hi
  go_enter Try.func73, Try.ntmps73
  go_wp2_with fail
  go_loopw [8] (fun i wr => ∃ t : Nat, t ≤ L.length ∧ i = .int .i64 t ∧ (∀ x ∈ L.take t, delB F x = false) ∧ Below w.heap.size w wr) (fun i _ => L.length - (intOf i).toNat)
  case atStart => exact ⟨0, by omega, rfl, by simp, Below.refl _ _⟩
  case round =>
    obtain ⟨t, ht, rfl, hno, hb⟩ := hrel
    have HN := Lib.hid hno
    have HB := Lib.hid hb
    clear hno hb
    by_cases hlt : t < L.length
    · have hlt2 : 0 ≤ (t : Int) ∧ (t : Int) < L.length := by omega
      obtain ⟨x, hx⟩ := nth_of hlt
      obtain ⟨b', o, A2, c2, rfl, _, hbl, c0, c1, c2', _⟩ := (HL.out.next HB.out).at_ hx
      have HX := Lib.hid hx
      have hmem := HI.out x (List.mem_iff_getElem?.2 ⟨t, hx⟩)
      have HC := Lib.hid (dropClo_any x A2 c2 b p F wr (HE.out.next HB.out) ((HB.out.cell (p := ⟨p, 0, none⟩) (cell_lt HP.out)).trans HP.out) hmem.1 hmem.2)
      obtain ⟨q, hq⟩ : ∃ q, delB F x = q := ⟨_, rfl⟩
      have HQ := Lib.hid hq
      rw [hq] at HC
      clear hx hmem hq
      go_wp2_with fail
      refine HC.out.mono ?_
      rintro e w1 ⟨rfl, hb1⟩
      have HB1 := Lib.hid (below_next HB.out (Nat.le_refl _) hb1)
      clear hb1
      cases q with
      | true =>
        go_wp2_with fail
        go_ret
        refine ⟨HB1.out, .inl ⟨t, rfl, hlt, ?_⟩⟩
        rw [keepL_snoc F L HX.out, if_pos HQ.out, keepL_all HN.out]
      | false =>
        go_wp2_with fail
        refine ⟨⟨t + 1, by omega, by go_num, fun y hy => ?_, HB1.out⟩, by simp [intOf]; omega⟩
        rw [List.take_add_one, HX.out] at hy
        rcases List.mem_append.1 hy with h | h
        · exact HN.out y h
        · simp at h
          subst h
          exact HQ.out
    · have hlt2 : ¬ (t : Int) < L.length := by omega
      obtain rfl : t = L.length := by omega
      have HA := Lib.hid (show keepL F L = L from keepL_all (by have h := HN.out; rw [List.take_length] at h; exact h))
      go_wp2_with fail
      go_ret
      exact ⟨HB.out, .inr ⟨rfl, HA.out⟩⟩

/-- Sets in block g, their slots in other blocks. -/
def RowD (w : World) (g N : Nat) (M : List SetR) : Prop :=
  ∃ cur : Array Value, Blk w g 57 cur ∧ cur.size = N * 3 ∧ M.length = N ∧
    ∀ (j : Nat) (x : SetR), M[j]? = some x → cur[j * 3]? = some (.int .i64 x.fr) ∧ cur[j * 3 + 1]? = some (.int .i64 x.tg) ∧ ∃ A c, cur[j * 3 + 2]? = some (.slice A x.sl.length c) ∧ SArr w (fun b => b ≠ g ∧ b < w.heap.size) A c x.sl
section
variable {w w' : World} {B g N : Nat} {L M : List SetR}
theorem Deep.rowD (h : Deep w B g L.length L) : RowD w g L.length L := by
  obtain ⟨cur, h1, h2, h3, h4, h5, h6⟩ := h
  refine ⟨cur, h1, h3, rfl, fun j x hj => ?_⟩
  obtain ⟨a0, a1, v, a2, a3⟩ := h5 j x hj
  obtain ⟨A, c, rfl, hS⟩ := sarr_of a3
  exact ⟨a0, a1, A, c, a2, hS.mono fun b hb => ⟨by have := hb.1; omega, hb.2⟩⟩
theorem RowD.next (h : RowD w g N M) (hb : Below w.heap.size w w') : RowD w' g N M := by
  obtain ⟨cur, h1, h2, h3, h4⟩ := h
  refine ⟨cur, h1.next hb, h2, h3, fun j x hj => ?_⟩
  obtain ⟨a0, a1, A, c, a2, a3⟩ := h4 j x hj
  exact ⟨a0, a1, A, c, a2, (a3.keep fun b o hp => hb.cell (p := ⟨b, o, none⟩) hp.2).mono fun b hp => ⟨hp.1, Nat.lt_of_lt_of_le hp.2 hb.size⟩⟩
theorem RowD.at_ (h : RowD w g N M) {j : Nat} {x : SetR} (hj : M[j]? = some x) : ∃ A c, w.cell? ⟨g, j * 3, none⟩ = some (.int .i64 x.fr) ∧ w.cell? ⟨g, j * 3 + 1, none⟩ = some (.int .i64 x.tg) ∧ w.cell? ⟨g, j * 3 + 2, none⟩ = some (.slice A x.sl.length c) ∧ SArr w (fun b => b ≠ g ∧ b < w.heap.size) A c x.sl := by
  obtain ⟨cur, h1, h2, h3, h4⟩ := h
  obtain ⟨a0, a1, A, c, a2, a3⟩ := h4 j x hj
  exact ⟨A, c, by rw [h1.cell]; exact a0, by rw [h1.cell]; exact a1, by rw [h1.cell]; exact a2, a3⟩
theorem RowD.lt (h : RowD w g N M) : g < w.heap.size := by obtain ⟨cur, h1, _⟩ := h; exact h1.lt
theorem RowD.free (h : RowD w g N M) (i : Nat) : w.frozen? ⟨g, i, none⟩ = false := by obtain ⟨cur, h1, _⟩ := h; exact h1.frozen i
theorem set3_heap {w : World} {g i j k b : Nat} {u v z : Value} (h : b ≠ g) : (((w.setCell ⟨g, i, none⟩ u).setCell ⟨g, j, none⟩ v).setCell ⟨g, k, none⟩ z).heap[b]? = w.heap[b]? :=
  ((Below.heap_setCell _ ⟨g, k, none⟩ _ b h).trans (Below.heap_setCell _ ⟨g, j, none⟩ _ b h)).trans (Below.heap_setCell _ ⟨g, i, none⟩ _ b h)
theorem set3_size {w : World} {g i j k : Nat} {u v z : Value} : (((w.setCell ⟨g, i, none⟩ u).setCell ⟨g, j, none⟩ v).setCell ⟨g, k, none⟩ z).heap.size = w.heap.size := by simp [World.setCell]
theorem RowD.put {y : SetR} {A : Option Addr} {c i : Nat} (h : RowD w g N M) (hS : SArr w (fun b => b ≠ g ∧ b < w.heap.size) A c y.sl) (hi : i < N) :
    RowD (((w.setCell ⟨g, i * 3, none⟩ (.int .i64 y.fr)).setCell ⟨g, i * 3 + 1, none⟩ (.int .i64 y.tg)).setCell ⟨g, i * 3 + 2, none⟩ (.slice A y.sl.length c)) g N (M.set i y) := by
  obtain ⟨cur, h1, h2, h3, h4⟩ := h
  have tr2 : ∀ {A' : Option Addr} {c' : Nat} {S : List Int}, SArr w (fun b => b ≠ g ∧ b < w.heap.size) A' c' S → SArr (((w.setCell ⟨g, i * 3, none⟩ (.int .i64 y.fr)).setCell ⟨g, i * 3 + 1, none⟩ (.int .i64 y.tg)).setCell ⟨g, i * 3 + 2, none⟩ (.slice A y.sl.length c)) (fun b => b ≠ g ∧ b < (((w.setCell ⟨g, i * 3, none⟩ (.int .i64 y.fr)).setCell ⟨g, i * 3 + 1, none⟩ (.int .i64 y.tg)).setCell ⟨g, i * 3 + 2, none⟩ (.slice A y.sl.length c)).heap.size) A' c' S := by
    intro A' c' S h
    exact (h.keep fun b o hp => World.cell?_of_block (set3_heap hp.1)).mono fun b hp => ⟨hp.1, by rw [set3_size]; exact hp.2⟩
  refine ⟨_, ((h1.set_ (i * 3) (.int .i64 y.fr)).set_ (i * 3 + 1) (.int .i64 y.tg)).set_ (i * 3 + 2) (.slice A y.sl.length c), by simp [h2], by simp [h3], fun j x hj => ?_⟩
  have hjl := get_lt hj
  simp at hjl
  have e0 : i * 3 < cur.size := by omega
  have e1 : i * 3 + 1 < cur.size := by omega
  have e2 : i * 3 + 2 < cur.size := by omega
  by_cases e : i = j
  · subst e
    rw [List.getElem?_set_self (by omega)] at hj
    injection hj with hj
    subst hj
    refine ⟨?_, ?_, A, c, ?_, tr2 hS⟩
    · rw [Array.getElem?_setIfInBounds_ne (by omega), Array.getElem?_setIfInBounds_ne (by omega), Array.getElem?_setIfInBounds_self_of_lt e0]
    · rw [Array.getElem?_setIfInBounds_ne (by omega), Array.getElem?_setIfInBounds_self_of_lt (by simpa using e1)]
    · rw [Array.getElem?_setIfInBounds_self_of_lt (by simpa using e2)]
  · rw [List.getElem?_set_ne e] at hj
    obtain ⟨a0, a1, A', c', a2, a3⟩ := h4 j x hj
    refine ⟨?_, ?_, A', c', ?_, tr2 a3⟩
    · rw [Array.getElem?_setIfInBounds_ne (by omega), Array.getElem?_setIfInBounds_ne (by omega), Array.getElem?_setIfInBounds_ne (by omega)]; exact a0
    · rw [Array.getElem?_setIfInBounds_ne (by omega), Array.getElem?_setIfInBounds_ne (by omega), Array.getElem?_setIfInBounds_ne (by omega)]; exact a1
    · rw [Array.getElem?_setIfInBounds_ne (by omega), Array.getElem?_setIfInBounds_ne (by omega), Array.getElem?_setIfInBounds_ne (by omega)]; exact a2
end
/-- The end of a row cleared: what stands before may still be read. -/
theorem clear_row {w : World} {g N i : Nat} {M : List SetR} (h : RowD w g N M) (hi : i < N) (hm : N ≤ maxLen) : ∃ W, (∀ ty, (Builtin.clear_ #[26] ty #[.slice (some ⟨g, i * 3, none⟩) (N - i) (N - i)]).run Try.prog w = .ok (.tuple #[]) W) ∧ TArr W (Lt W.heap.size) (some ⟨g, 0, none⟩) N (M.take i) ∧ w.grownBy W (some g) := by
  obtain ⟨cur, h1, h2, h3, h4⟩ := h
  obtain ⟨z, hz⟩ : ∃ z : List Value, z = (Builtin.zeroCells (Value.agg #[.int .i64 0, .int .i64 0, .slice none 0 0]).cells (N - i)).toList := ⟨_, rfl⟩
  have hzl : z.length = (N - i) * 3 := by rw [hz, Array.length_toList, size_zeroCells]; simp [Value.cells]
  have h1z : ∀ u ∈ z, u.oneCell' = true := by
    intro u hu
    rw [hz] at hu
    simp [Builtin.zeroCells, Value.cells] at hu
    obtain ⟨a, ha, rfl⟩ := hu
    rcases (by omega : a % 3 = 0 ∨ a % 3 = 1 ∨ a % 3 = 2) with e | e | e <;> simp [e] <;> rfl
  have hst := run_storeCells_at (P := Try.prog) g (i * 3) 57 z 0 cur w h1 (by omega) h1z
  have hzv : ∀ w, (zeroValue 57).run Try.prog w = .ok (.agg #[.int .i64 0, .int .i64 0, .slice none 0 0]) w := fun w => by kernel_rfl
  refine ⟨w.setRow g (cur.toList.take (i * 3 + 0) ++ z ++ cur.toList.drop (i * 3 + 0 + z.length)).toArray, fun ty => ?_, ?_, ?_⟩
  · obtain ⟨m, hm⟩ : ∃ m, N - i = m + 1 := ⟨N - i - 1, by omega⟩
    rw [hm] at hz ⊢
    rw [hz] at hst ⊢
    simp [Builtin.clear_, run_underlying Try.underlying26, hzv, hst]
  · have hB := setRow_heap w g cur (cur.toList.take (i * 3 + 0) ++ z ++ cur.toList.drop (i * 3 + 0 + z.length)).toArray _ _ h1
    refine ⟨by simp; omega, hm, (fun e => by cases e), fun hn => ⟨g, 0, rfl, by rw [setRow_size]; exact h1.lt, fun j x hj => ?_⟩⟩
    have hjl := get_lt hj
    rw [List.length_take] at hjl
    have hji : j < i := by omega
    rw [List.getElem?_take, if_pos hji] at hj
    obtain ⟨a0, a1, A, c, a2, a3⟩ := h4 j x hj
    have low : ∀ k, k < i * 3 → (cur.toList.take (i * 3 + 0) ++ z ++ cur.toList.drop (i * 3 + 0 + z.length)).toArray[k]? = cur[k]? := fun k hk => by
      rw [List.getElem?_toArray, List.append_assoc, List.getElem?_append_left (by simp; omega), List.getElem?_take, if_pos (by omega)]
      simp
    rw [cell_row hB, cell_row hB, cell_row hB, Nat.zero_add, low _ (by omega), low _ (by omega), low _ (by omega)]
    refine ⟨a0, a1, A, c, a2, (a3.keep fun b o hp => World.cell?_of_block (setRow_other w g b _ hp.1)).mono fun b hp => ?_⟩
    show b < (w.setRow g _).heap.size
    rw [setRow_size]
    exact hp.2
  · exact ⟨rfl, rfl, rfl, by simp, fun k hk hne => setRow_other w g k _ (fun e => hne (by rw [e]))⟩
theorem RowD.tarr {w : World} {g N : Nat} {M : List SetR} (h : RowD w g N M) (hm : N ≤ maxLen) : TArr w (Lt w.heap.size) (some ⟨g, 0, none⟩) N M := by
  have hl := h.lt
  have hn : M.length = N := by obtain ⟨_, _, _, h, _⟩ := h; exact h
  refine ⟨by omega, hm, (fun e => by cases e), fun _ => ⟨g, 0, rfl, hl, fun j x hj => ?_⟩⟩
  obtain ⟨A, c, a0, a1, a2, a3⟩ := h.at_ hj
  rw [Nat.zero_add]
  exact ⟨a0, a1, A, c, a2, a3.mono fun b hb => hb.2⟩
theorem keepL_le (F : List Int) (L : List SetR) : (keepL F L).length ≤ L.length := List.length_filter_le _ _

set_option maxHeartbeats 8000000 in
theorem delete_any (g b p : Nat) (L : List SetR) (F : List Int) (w : World) (hD : RowD w g L.length L) (hE : Elems w b F) (hp : w.cell? ⟨p, 0, none⟩ = some (.map (some b))) (hbg : b ≠ g) (hpg : p ≠ g) (hi : ∀ x ∈ L, in64 x.fr ∧ in64 x.tg) (hn : L.length ≤ 1048576) :
    Calls Try.prog 53 #[.slice (some ⟨g, 0, none⟩) L.length L.length, .func (.func 55) #[] #[.pointer (some ⟨p, 0, none⟩)]] w
      fun e w' => ∃ A c, e = .returned (.slice A (keepL F L).length c) ∧ TArr w' (Lt w'.heap.size) A c (keepL F L) ∧ w.grownBy w' (some g) := by
  have HD := Lib.hid hD
  have HE := Lib.hid hE
  have HP := Lib.hid hp
  have HI := Lib.hid hi
  have HM := Lib.hid (show L.length ≤ maxLen by unfold maxLen; omega)
  clear hD hE hp hi
  go_enter Try.func53, Try.ntmps53
  go_wp2_with fail
  refine (indexT_any (some ⟨g, 0, none⟩) L.length b p L F w (HD.out.tarr HM.out) HE.out HP.out HI.out).mono ?_
  rintro e w1 ⟨hb1, ⟨k, rfl, hk, hkeep⟩ | ⟨rfl, hkeep⟩⟩
  · have HB1 := Lib.hid hb1
    have HK := Lib.hid hkeep
    have hk1 : ((k : Int) == -1) = false := beq_eq_false_iff_ne.2 (by omega)
    have HG0 : Hid (w.grownBy w1 (some g)) := Lib.hid ⟨hb1.os, hb1.tape, hb1.output, hb1.size, fun k hk _ => hb1.block k hk⟩
    clear hb1 hkeep
    go_wp2_with fail
    go_loopw [5, 6] (fun s5 s6 wr => ∃ i j : Nat, s5 = .int .i64 i ∧ s6 = .int .i64 j ∧ i < j ∧ j ≤ L.length ∧ (∃ M, RowD wr g L.length M ∧ M.take i = keepL F (L.take j) ∧ M.drop j = L.drop j) ∧ i = (keepL F (L.take j)).length ∧ w.grownBy wr (some g)) (fun _ s6 _ => L.length - (intOf s6).toNat)
    case atStart => exact ⟨k, k + 1, rfl, (by first | rfl | simp), by omega, by omega, ⟨L, HD.out.next HB1.out, HK.out.symm, rfl⟩, by rw [HK.out, List.length_take]; omega, HG0.out⟩
    case round =>
      obtain ⟨i, j, rfl, rfl, hij, hjn, ⟨M, hr, hM1, hM2⟩, hil, hg⟩ := hrel
      have HR := Lib.hid hr
      have HM1 := Lib.hid hM1
      have HM2 := Lib.hid hM2
      have HIL := Lib.hid hil
      have HG := Lib.hid hg
      have hgl := hr.lt
      have hml : M.length = L.length := by obtain ⟨_, _, _, h, _⟩ := hr; exact h
      have HML := Lib.hid hml
      clear hr hM1 hM2 hil hg hml HG0
      by_cases hlt : j < L.length
      · have hlt2 : 0 ≤ (j : Int) ∧ (j : Int) < L.length := by omega
        have hlt3 : 0 ≤ (i : Int) ∧ (i : Int) < L.length := by omega
        obtain ⟨y, hy⟩ := nth_of hlt
        have hyM : M[j]? = some y := by
          have h1 : (M.drop j)[0]? = (L.drop j)[0]? := by rw [HM2.out]
          rw [List.getElem?_drop, List.getElem?_drop, Nat.add_zero] at h1
          rw [h1, hy]
        obtain ⟨x, hx⟩ := nth_of (l := M) (j := i) (by have := HML.out; omega)
        obtain ⟨A2, c2, c0, c1, c2', hS⟩ := HR.out.at_ hyM
        obtain ⟨A3, c3, d0, d1, d2, _⟩ := HR.out.at_ hx
        have HY := Lib.hid hy
        have HS := Lib.hid hS
        have hmem := HI.out y (List.mem_iff_getElem?.2 ⟨j, hy⟩)
        have HPW : Hid (wr.cell? ⟨p, 0, none⟩ = some (.map (some b))) := Lib.hid ((World.cell?_of_block (HG.out.block p (cell_lt HP.out) (fun e => hpg (by injection e)))).trans HP.out)
        have HEW : Hid (Elems wr b F) := Lib.hid (HE.out.far HG.out (fun e => hbg (by injection e)))
        obtain ⟨W1, hW1⟩ : ∃ W1, W1 = wr.alloc (.cells #[.int .i64 y.fr, .int .i64 y.tg, .slice A2 y.sl.length c2] 57) := ⟨_, rfl⟩
        have hb1 : Below wr.heap.size wr W1 := by rw [hW1]; exact (Below.refl _ wr).alloc (Nat.le_refl _) _
        have hbx : Blk W1 wr.heap.size 57 #[.int .i64 y.fr, .int .i64 y.tg, .slice A2 y.sl.length c2] := by rw [hW1]; exact Blk.new _ _ _
        have HC := Lib.hid (dropClo_any y A2 c2 b p F W1 (HEW.out.next hb1) ((hb1.cell (p := ⟨p, 0, none⟩) (cell_lt HPW.out)).trans HPW.out) hmem.1 hmem.2)
        obtain ⟨q, hq⟩ : ∃ q, delB F y = q := ⟨_, rfl⟩
        have HQ := Lib.hid hq
        rw [hq] at HC
        have HBX := Lib.hid hbx
        have HB1' := Lib.hid hb1
        have HW1 := Lib.hid hW1
        have p0 : W1.cell? ⟨wr.heap.size, 0, none⟩ = some (.int .i64 y.fr) := hbx.cell 0
        have p1 : W1.cell? ⟨wr.heap.size, 1, none⟩ = some (.int .i64 y.tg) := hbx.cell 1
        have p2 : W1.cell? ⟨wr.heap.size, 2, none⟩ = some (.slice A2 y.sl.length c2) := hbx.cell 2
        have D0 := Lib.hid d0
        have D1 := Lib.hid d1
        have D2 := Lib.hid d2
        clear hy hyM hx hS hmem hq hb1 hbx hW1 d0 d1 d2
        go_upto_region 8 with fail
        rw [← HW1.out]
        go_wp2_with fail
        refine HC.out.mono ?_
        rintro e w2 ⟨rfl, hb2⟩
        have HB2 := Lib.hid (HB1'.out.trans (hb2.mono HB1'.out.size))
        have HBX2 := Lib.hid (HBX.out.next hb2)
        have HSK := Lib.hid (keepL_snoc F L HY.out)
        clear hb2 c0 c1 c2' p0 p1 p2
        have HG2 : Hid (w.grownBy w2 (some g)) := Lib.hid (grown_trans HG.out ⟨HB2.out.os, HB2.out.tape, HB2.out.output, HB2.out.size, fun k hk _ => HB2.out.block k hk⟩)
        have HR2 := Lib.hid (HR.out.next HB2.out)
        cases q with
        | true =>
          go_wp2_with fail
          refine ⟨⟨i, j + 1, rfl, by go_num, by omega, by omega, ⟨M, HR2.out, ?_, ?_⟩, ?_, HG2.out⟩, by simp [intOf]; omega⟩
          · rw [HSK.out, if_pos HQ.out]; exact HM1.out
          · have h := congrArg (List.drop 1) HM2.out
            simpa [List.drop_drop, Nat.add_comm] using h
          · rw [HSK.out, if_pos HQ.out]; exact HIL.out
        | false =>
          have e0 := (HB2.out.cell (p := ⟨g, i * 3, none⟩) hgl).trans D0.out
          have e1 := (HB2.out.cell (p := ⟨g, i * 3 + 1, none⟩) hgl).trans D1.out
          have e2 := (HB2.out.cell (p := ⟨g, i * 3 + 2, none⟩) hgl).trans D2.out
          have z0 := HR2.out.free (i * 3)
          have z1 := HR2.out.free (i * 3 + 1)
          have z2 := HR2.out.free (i * 3 + 2)
          have p0 : w2.cell? ⟨wr.heap.size, 0, none⟩ = some (.int .i64 y.fr) := HBX2.out.cell 0
          have p1 : w2.cell? ⟨wr.heap.size, 1, none⟩ = some (.int .i64 y.tg) := HBX2.out.cell 1
          have p2 : w2.cell? ⟨wr.heap.size, 2, none⟩ = some (.slice A2 y.sl.length c2) := HBX2.out.cell 2
          have HS2 : Hid (SArr w2 (fun b => b ≠ g ∧ b < w2.heap.size) A2 c2 y.sl) := Lib.hid ((HS.out.keep fun b o hp => HB2.out.cell (p := ⟨b, o, none⟩) hp.2).mono fun b hp => ⟨hp.1, Nat.lt_of_lt_of_le hp.2 HB2.out.size⟩)
          have HZ : ∃ Z, Z = (((w2.setCell ⟨g, i * 3, none⟩ (.int .i64 y.fr)).setCell ⟨g, i * 3 + 1, none⟩ (.int .i64 y.tg)).setCell ⟨g, i * 3 + 2, none⟩ (.slice A2 y.sl.length c2)) ∧ RowD Z g L.length (M.set i y) ∧ w.grownBy Z (some g) := by
            refine ⟨_, rfl, HR2.out.put HS2.out (by omega), ?_⟩
            exact ⟨HG2.out.os, HG2.out.tape, HG2.out.output, by rw [set3_size]; exact HG2.out.size, fun k hk hne => (set3_heap (fun e => hne (by rw [e]))).trans (HG2.out.block k hk hne)⟩
          obtain ⟨Z, hZ, hzr, hzg⟩ := HZ
          have HZ := Lib.hid hZ
          have HZR := Lib.hid hzr
          have HZG := Lib.hid hzg
          clear hZ hzr hzg
          go_upto_region 10 with fail
          rw [← HZ.out]
          clear e0 e1 e2 z0 z1 z2 p0 p1 p2
          go_wp2_with fail
          refine ⟨⟨i + 1, j + 1, by go_num, by go_num, by omega, by omega, ⟨M.set i y, HZR.out, ?_, ?_⟩, ?_, HZG.out⟩, by simp [intOf]; omega⟩
          · rw [HSK.out, if_neg (by rw [HQ.out]; decide), ← HM1.out, List.take_add_one, List.getElem?_set_self (by have := HML.out; omega)]
            rw [List.take_set_of_le (Nat.le_refl _)]
            rfl
          · rw [List.drop_set_of_lt (by omega)]
            have h := congrArg (List.drop 1) HM2.out
            simpa [List.drop_drop, Nat.add_comm] using h
          · rw [HSK.out, if_neg (by rw [HQ.out]; decide), List.length_append, ← HIL.out]; rfl
      · have hlt2 : ¬ (j : Int) < L.length := by omega
        obtain rfl : j = L.length := by omega
        obtain ⟨W, hcl, hT, hgW⟩ := clear_row HR.out hij HM.out
        have HT : Hid (TArr W (Lt W.heap.size) (some ⟨g, 0, none⟩) L.length (keepL F L)) := Lib.hid (by rw [HM1.out, List.take_length] at hT; exact hT)
        have HIE : Hid (i = (keepL F L).length) := Lib.hid (by have h := HIL.out; rw [List.take_length] at h; exact h)
        have HGW := Lib.hid (grown_trans HG.out hgW)
        have hb1 : (0 : Int) ≤ i ∧ (i : Int) ≤ L.length := by omega
        have hb2 : ¬ (L.length = i) := by omega
        have hb3 : (i : Int) ≤ L.length := by omega
        clear hT hgW
        go_wp2
        go_ret
        exact ⟨_, _, by rw [← HIE.out]; rfl, HT.out, HGW.out⟩
  · have HB1 := Lib.hid hb1
    have HK := Lib.hid hkeep
    clear hb1 hkeep
    go_wp2_with fail
    go_ret
    exact ⟨some ⟨g, 0, none⟩, L.length, by rw [HK.out]; rfl, by rw [HK.out]; exact (HD.out.next HB1.out).tarr HM.out, ⟨HB1.out.os, HB1.out.tape, HB1.out.output, HB1.out.size, fun k hk _ => HB1.out.block k hk⟩⟩

/-- Readable sets. -/
def ReadT (L : List SetR) (w : World) (e : Ending) (w' : World) : Prop := ∃ A c, e = .returned (.slice A L.length c) ∧ TArr w' (Lt w'.heap.size) A c L ∧ Below w.heap.size w w'
theorem val_in64 {L : List SetR} (hv : ValS L) : ∀ x ∈ L, in64 x.fr ∧ in64 x.tg := fun x hx => by
  obtain ⟨h1, h2, _⟩ := hv.1 x hx
  unfold numP at h1 h2
  unfold in64
  omega
set_option maxHeartbeats 4000000 in
theorem devDrop_any (A : Option Addr) (c : Nat) (L : List SetR) (w : World) (hL : TArr w (Lt w.heap.size) A c L) (B : Option Addr) (d : Nat) (F : List Int) (hF : SArr w (Lt w.heap.size) B d F) (hFi : ∀ x ∈ F, in64 x) (hn : L.length ≤ 1048000) (hs : ∀ x ∈ L, x.sl.length ≤ 1048000) (hv : ValS L) :
    Calls Try.prog 29 #[.slice A L.length c, .slice B F.length d] w (ReadT (drpS F L) w) := by
  unfold ReadT
  rw [← keepL_eq]
  have HL := Lib.hid hL
  have HV := Lib.hid hv
  have HS := Lib.hid hs
  have HN := Lib.hid hn
  have HE0 := Lib.hid (elements_any B d F w hF hFi)
  clear hL hF hFi hs hv hn
  go_enter Try.func29, Try.ntmps29
  go_wp2_with fail
  refine HE0.out.mono ?_
  rintro e w1 ⟨b, rfl, hwb, he, hb1⟩
  have HE := Lib.hid he
  have HB1 := Lib.hid hb1
  obtain ⟨W2, hW2⟩ : ∃ W2, W2 = w1.alloc (.cells #[.map (some b)] 91) := ⟨_, rfl⟩
  have hb2 : Below w1.heap.size w1 W2 := by rw [hW2]; exact (Below.refl _ _).alloc (Nat.le_refl _) _
  have hbx : Blk W2 w1.heap.size 91 #[.map (some b)] := by rw [hW2]; exact Blk.new _ _ _
  have HW2 := Lib.hid hW2
  have HB2 := Lib.hid (below_next HB1.out (Nat.le_refl _) hb2)
  have HBX := Lib.hid hbx
  have HE2 := Lib.hid (HE.out.next hb2)
  have HLT := Lib.hid he.lt
  have hlb := hbx.lt
  clear he hb1 hb2 hbx hW2
  go_upto_region 2 with fail
  rw [← HW2.out]
  go_wp2_with fail
  refine (cloneT_any A c L W2 (HL.out.next HB2.out) (by have := HN.out; omega) (fun x hx => by have := HS.out x hx; omega)).mono ?_
  rintro e w3 ⟨g, rfl, hd, hb3⟩
  have hgg : W2.heap.size ≤ g := by obtain ⟨_, _, h, _⟩ := hd; exact h
  have HG := Lib.hid hgg
  have HB3 := Lib.hid (below_next HB2.out (Nat.le_refl _) hb3)
  have HC := Lib.hid (delete_any g b w1.heap.size L F w3 hd.rowD (HE2.out.next hb3) ((HBX.out.next hb3).cell 0) (by have := HLT.out; omega) (by omega) (val_in64 HV.out) (by have := HN.out; omega))
  have hlb3 : w1.heap.size < w3.heap.size := Nat.lt_of_lt_of_le hlb hb3.size
  clear hd hb3 hgg
  go_wp2_with fail
  refine HC.out.mono ?_
  rintro e w4 ⟨A9, c9, rfl, h9, hg9⟩
  have H9 := Lib.hid h9
  have HB4 := Lib.hid (HB3.out.trans (grown_below hg9 (fun k hk => by injection hk with hk; have := HG.out; have := HB2.out.size; omega) HB3.out.size))
  clear h9 hg9
  go_wp2_with fail
  go_ret
  exact ⟨A9, c9, rfl, H9.out, HB4.out⟩
end Go.Proofs.Ytjkbjbikofindaa
