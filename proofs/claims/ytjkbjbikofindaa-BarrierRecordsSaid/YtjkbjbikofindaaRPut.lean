/-
  A slot more in remembered sets: the reference's Put.
-/
import Derived.Test.YtjkbjbikofindaaRCopy
import Derived.Test.YtjkbjbikofindaaRWith
import Derived.Deep.RegionHeld3
import Derived.Deep.CutBlock
namespace Go.Proofs.Ytjkbjbikofindaa
open Go.RowKit
set_option maxRecDepth 100000
set_option linter.unusedVariables false

theorem ownsRow_take {w : World} {B s n N cap : Nat} {e : TypeId} {A : Option Addr} {xs : List Value} (h : w.ownsRow B e s (.slice A N cap) N xs) (hn : n ≤ N) : w.ownsRow B e s (.slice A n cap) n (xs.take (n * s)) := by
  obtain ⟨hl, h⟩ := h
  have hns : n * s ≤ N * s := Nat.mul_le_mul_right s hn
  refine ⟨by rw [List.length_take, hl]; omega, ?_⟩
  rcases h with ⟨e, hz⟩ | ⟨g, cap', cur, e, hb, hg, hc, hm, hs, htk⟩
  · injection e with e1 e2 e3
    subst e1 e3
    have : n = 0 := by omega
    subst this
    exact .inl ⟨rfl, rfl⟩
  · injection e with e1 e2 e3
    subst e1 e3
    refine .inr ⟨g, _, cur, rfl, hb, hg, by omega, hm, hs, ?_⟩
    rw [← htk, List.take_take]
    congr 1
    omega
/-- A row of slots stored into a set of a row of the call's own. -/
theorem TOwn.set_ {w : World} {base lo g cap n : Nat} {L : List SetR} {x : SetR} {A : Option Addr} {c : Nat} {S : List Int} (h : TOwn w base lo (.slice (some ⟨g, 0, none⟩) L.length cap) L) (hn : L[n]? = some x) (hS : SArr w (Inn w lo) A c S) :
    g < w.heap.size ∧ base ≤ g ∧ (w.cell? ⟨g, n * 3 + 2, none⟩).isSome = true ∧ w.frozen? ⟨g, n * 3 + 2, none⟩ = false ∧ TOwn (w.setCell ⟨g, n * 3 + 2, none⟩ (.slice A S.length c)) base lo (.slice (some ⟨g, 0, none⟩) L.length cap) (L.set n ⟨x.fr, x.tg, S⟩) := by
  obtain ⟨hlo, vs, hv, hu⟩ := h
  have hv0 := hv
  have hnl := get_lt hn
  obtain ⟨hl, h⟩ := hv
  rcases h with ⟨e, hz⟩ | ⟨g', cap', cur, e, hb, hg, hc, hm, hs, htk⟩
  · cases e
  · injection e with e1 e2 e3
    injection e1 with e1
    injection e1 with e1 _ _
    subst e1 e3
    obtain ⟨a0, a1, A', c', a2, hS'⟩ := hu.2 n x hn
    have hcl : n * 3 + 2 < cur.size := by omega
    refine ⟨blk_lt hg, hb, ?_, free_row hg, ?_⟩
    · rw [cell_row hg, Array.getElem?_eq_getElem hcl]; rfl
    have hg' : (w.setCell ⟨g, n * 3 + 2, none⟩ (.slice A S.length c)).heap[g]? = some (.cells (cur.setIfInBounds (n * 3 + 2) (.slice A S.length c)) 57 (0, 0)) := by
      simp [World.setCell, Array.getElem?_modify, hg]
    have hne : ∀ b, Inn w lo b → b < w.heap.size → (w.setCell ⟨g, n * 3 + 2, none⟩ (.slice A S.length c)).heap[b]? = w.heap[b]? := by
      intro b hb' hl'
      have : g ≠ b := fun e => own_inn hv0 hlo hb' (by rw [← e]; rfl)
      simp [World.setCell, Array.getElem?_modify, this]
    refine ⟨hlo, vs.set (n * 3 + 2) (.slice A S.length c), ⟨by simp [hl], .inr ⟨g, _, _, by simp, hb, hg', by simpa using hc, hm, by simpa using hs, ?_⟩⟩, (hu.set_ hn hS).mono fun A c S hs => hs.inn hne⟩
    rw [← htk]
    simp [Array.toList_setIfInBounds, List.take_set, List.length_set]

/-- The cells of a row of the call's own, as a source of append. -/
theorem own_src {w : World} {B s m c : Nat} {e : TypeId} {ad : Addr} {xs : List Value} (h : w.ownsRow B e s (.slice (some ad) m c) m xs) : ∀ (j : Nat) (u : Value), xs[j]? = some u → w.cell? (ad.add j) = some u := by
  intro j u hu
  obtain ⟨hl, h⟩ := h
  rcases h with ⟨e, hz⟩ | ⟨g, cap, cur, e, hb, hg, hc, hm, hs, htk⟩
  · cases e
  · injection e with e1 _ _
    injection e1 with e1
    subst e1
    have hj := get_lt hu
    rw [← htk, List.getElem?_take, if_pos (by omega)] at hu
    rw [add_at, Nat.zero_add, cell_row hg]
    simpa using hu
theorem SetV.drop {w : World} {P : Nat → Prop} {vs : List Value} {L : List SetR} (h : SetV w P vs L) (k : Nat) : SetV w P (vs.drop (k * 3)) (L.drop k) := by
  have := h.1
  refine ⟨by simp; omega, fun j x hj => ?_⟩
  rw [List.getElem?_drop] at hj
  have h2 := h.2 _ x hj
  rw [List.getElem?_drop, List.getElem?_drop, List.getElem?_drop, show k * 3 + j * 3 = (k + j) * 3 by omega, show k * 3 + (j * 3 + 1) = (k + j) * 3 + 1 by omega, show k * 3 + (j * 3 + 2) = (k + j) * 3 + 2 by omega]
  exact h2
/-- A cell of another set, below the row's base, has turned. -/
theorem TOwn.but {w w2 : World} {base lo P : Nat} {v : Value} {L : List SetR} {cs : Array Value} (h : TOwn w base lo v L) (hP : Blk w P 57 cs) (hb : P < base) (hl : lo ≤ P) (hk : ∀ b, b < w.heap.size → b ≠ P → w2.heap[b]? = w.heap[b]?) : TOwn w2 base lo v L := by
  obtain ⟨h0, vs, h1, h2⟩ := h
  refine ⟨h0, vs, ownsRow_keep h1 fun g _ hg hl => hk g hl (by omega), h2.mono fun A c S hs => hs.inn fun b hb' hl' => hk b hl' (fun e => ?_)⟩
  rcases hb' with hb' | ⟨cur, z, hb'⟩
  · omega
  · subst e
    rw [show w.heap[b]? = _ from hP] at hb'
    injection hb' with hb'
    injection hb' with _ hb' _
    exact absurd hb' (by decide)

/-- The slots of the sets lie in blocks of numbers, or below lo. -/
def TIn (w : World) (lo : Nat) (A : Option Addr) (L : List SetR) : Prop := ∀ (j : Nat) (x : SetR), L[j]? = some x → ∃ b o A' c', A = some ⟨b, o, none⟩ ∧ b < w.heap.size ∧ w.cell? ⟨b, o + j * 3 + 2, none⟩ = some (.slice A' x.sl.length c') ∧ SArr w (Inn w lo) A' c' x.sl
theorem TArr.tin {w : World} {A : Option Addr} {c lo : Nat} {L : List SetR} (h : TArr w (Lt lo) A c L) (hl : lo ≤ w.heap.size) : TIn w lo A L := fun j x hj => by
  obtain ⟨b, o, A', c', hA, hb, hl, _, _, h2, hS⟩ := h.at_ hj
  exact ⟨b, o, A', c', hA, hl, h2, hS.innLt⟩

set_option maxHeartbeats 8000000 in
theorem putX_any (A : Option Addr) (c : Nat) (L : List SetR) (f tg sl : Int) (lo : Nat) (w : World) (hlo : lo ≤ w.heap.size) (hL : TArr w (Lt w.heap.size) A c L) (hI : TIn w lo A L) (hn : L.length ≤ 1048000) (hs : ∀ x ∈ L, x.sl.length ≤ 1048000) :
    Calls Try.prog 23 #[.slice A L.length c, .int .i64 f, .int .i64 tg, .int .i64 sl] w (GivesT (putS f tg sl L) lo w) := by
  obtain ⟨i0, hi0, hz0, hz1, hz2⟩ := info_parts num_info
  obtain ⟨j0, hj0, hy0, hy1, hy2⟩ := info_parts set_info
  have HSL := Lib.hid hs
  have hm := hL.2.1
  have hm' := hL.1
  simp only [maxLen] at hm
  obtain ⟨U, hU⟩ : ∃ U, U = w.alloc (.cells #[.int .i64 f, .int .i64 tg, .slice none 0 0] 57) := ⟨_, rfl⟩
  have HP := Lib.hid (show Blk U w.heap.size 57 #[.int .i64 f, .int .i64 tg, .slice none 0 0] by rw [hU]; exact Blk.new _ _ _)
  have hbu : Below w.heap.size w U := by rw [hU]; exact (Below.refl _ w).alloc (Nat.le_refl _) _
  have HBU := Lib.hid hbu
  have HL := Lib.hid (hL.next hbu)
  have HLW := Lib.hid hI
  have HLO0 := Lib.hid hlo
  have HU := Lib.hid hU
  clear hL hs hU hbu hI hlo
  go_enter Try.func23, Try.ntmps23
  go_upto_region 2 with fail
  rw [← HU.out]
  go_upto_block 0 with fail
  go_cut [10] (fun i wx => ∃ n : Nat, n ≤ L.length ∧ i = .int .i64 n ∧ (∀ (j : Nat) (x : SetR), j < n → L[j]? = some x → bef x.fr x.tg f tg) ∧ (∀ x, L[n]? = some x → ¬ bef x.fr x.tg f tg) ∧ Below U.heap.size U wx)
  case first =>
    go_wp2_with fail
    go_loopw [10] (fun i wr => ∃ t : Nat, t ≤ L.length ∧ i = .int .i64 t ∧ (∀ (j : Nat) (x : SetR), j < t → L[j]? = some x → bef x.fr x.tg f tg) ∧ Below U.heap.size U wr) (fun i _ => L.length - (intOf i).toNat)
    case atStart => exact ⟨0, by omega, rfl, fun j x hj => by omega, Below.refl _ _⟩
    case round =>
      obtain ⟨t, ht, rfl, hno, hb⟩ := hrel
      have HB := Lib.hid hb
      have HN := Lib.hid hno
      clear hb hno
      by_cases hlt : t < L.length
      · have hlt2 : 0 ≤ (t : Int) ∧ (t : Int) < L.length := by omega
        obtain ⟨x, hx⟩ := nth_of hlt
        obtain ⟨b, o, A2, c2, rfl, _, lb, c0, c1, c2', hS⟩ := (HL.out.next HB.out).at_ hx
        have HX := Lib.hid hx
        have BP := HP.out.next HB.out
        have p0 : wr.drew.cell? ⟨w.heap.size, 0, none⟩ = some (.int .i64 f) := BP.cell 0
        have p1 : wr.drew.cell? ⟨w.heap.size, 1, none⟩ = some (.int .i64 tg) := BP.cell 1
        have p2 : wr.drew.cell? ⟨w.heap.size, 2, none⟩ = some (.slice none 0 0) := BP.cell 2
        have lp : w.heap.size < wr.drew.heap.size := BP.lt
        replace lb : b < wr.drew.heap.size := lb
        replace c0 : wr.drew.cell? ⟨b, o + t * 3, none⟩ = some (.int .i64 x.fr) := c0
        replace c1 : wr.drew.cell? ⟨b, o + t * 3 + 1, none⟩ = some (.int .i64 x.tg) := c1
        replace c2' : wr.drew.cell? ⟨b, o + t * 3 + 2, none⟩ = some (.slice A2 x.sl.length c2) := c2'
        obtain ⟨q, hq⟩ : ∃ q, decide (bef x.fr x.tg f tg) = q := ⟨_, rfl⟩
        have HQ := Lib.hid hq
        have hc : Below wr.drew.heap.size wr.drew wr.drew := Below.refl _ _
        clear hx hS BP hq
        go_upto_region 3 with fail
        go_region_held3 (fun w' => w'.cell? ⟨w.heap.size, 0, none⟩ = some (.int .i64 f) ∧ w'.cell? ⟨w.heap.size, 1, none⟩ = some (.int .i64 tg) ∧ w'.cell? ⟨w.heap.size, 2, none⟩ = some (.slice none 0 0) ∧ w'.cell? ⟨b, o + t * 3, none⟩ = some (.int .i64 x.fr) ∧ w'.cell? ⟨b, o + t * 3 + 1, none⟩ = some (.int .i64 x.tg) ∧ w'.cell? ⟨b, o + t * 3 + 2, none⟩ = some (.slice A2 x.sl.length c2))
          (first | (with_reducible exact ⟨p0, p1, p2, c0, c1, c2'⟩) | (with_reducible exact ⟨(hc.cell (p := ⟨w.heap.size, 0, none⟩) lp).trans p0, (hc.cell (p := ⟨w.heap.size, 1, none⟩) lp).trans p1, (hc.cell (p := ⟨w.heap.size, 2, none⟩) lp).trans p2, (hc.cell (p := ⟨b, o + t * 3, none⟩) lb).trans c0, (hc.cell (p := ⟨b, o + t * 3 + 1, none⟩) lb).trans c1, (hc.cell (p := ⟨b, o + t * 3 + 2, none⟩) lb).trans c2'⟩) | exact ⟨p0, p1, p2, c0, c1, c2'⟩)
          (first
            | (go_at_call 39; refine (before_any x.fr x.tg f tg A2 none x.sl.length c2 0 0 _).mono ?_; rintro e wn ⟨rfl, hb⟩; rw [HQ.out]; replace hc : Below wr.drew.heap.size wr.drew wn := hc.trans (Below.mono hb hc.size)))
        all_goals
          cases q with
          | true =>
            go_wp2_with fail
            refine ⟨⟨t + 1, by omega, by go_num, fun j y hj hy => ?_, HB.out.drew.trans (hc.mono HB.out.drew.size)⟩, by simp [intOf]; omega⟩
            rcases (by omega : j < t ∨ j = t) with h | h
            · exact HN.out j y h hy
            · subst h
              rw [HX.out] at hy
              injection hy with hy
              rw [← hy]
              exact of_decide_eq_true HQ.out
          | false =>
            go_wp2_with fail
            go_meet
            exact ⟨t, by omega, rfl, HN.out, fun y hy => by rw [HX.out] at hy; injection hy with hy; rw [← hy]; exact of_decide_eq_false HQ.out, HB.out.drew.trans (hc.mono HB.out.drew.size)⟩
      · have hlt2 : ¬ (t : Int) < L.length := by omega
        have hlt3 : decide ((t : Int) < L.length) = false := decide_eq_false hlt2
        go_upto_region 3 with fail
        go_region
        all_goals
          go_wp2_with fail
          go_meet
          exact ⟨t, by omega, by first | rfl | go_num, HN.out, fun y hy => by have := get_lt hy; omega, HB.out.drew⟩
  case rest =>
    obtain ⟨n, hnl, rfl, hlo, hat, hb⟩ := hcut
    have HB := Lib.hid hb
    have HAT := Lib.hid (putS_at (s := sl) L n hnl hlo hat)
    clear hb hlo hat
    go_wp2_with fail
    refine (copyT_any A c L lo wc (Nat.le_trans HLO0.out (Nat.le_trans HBU.out.size HB.out.size)) (HL.out.next HB.out) (by omega) (fun x hx => by have := HSL.out x hx; omega)).mono ?_
    rintro e V ⟨v, rfl, hto, hb⟩
    have HTO := Lib.hid (hto.lower (base' := U.heap.size) HB.out.size (Nat.le_trans HLO0.out HBU.out.size))
    have HBC := Lib.hid hb
    have HBV := Lib.hid (HB.out.trans (hb.mono HB.out.size))
    clear hto hb
    go_upto_region 6 with fail
    go_cut [44] (fun q wx => ∃ q' : Bool, q = .bool q' ∧ (q' = true ↔ ∃ x, L[n]? = some x ∧ ¬ bef f tg x.fr x.tg) ∧ Below V.heap.size V wx)
    case first =>
      by_cases hlt : n < L.length
      · obtain ⟨t, rfl⟩ : ∃ t, t = n := ⟨n, rfl⟩
        have hlt2 : 0 ≤ (t : Int) ∧ (t : Int) < L.length := by omega
        obtain ⟨x, hx⟩ := nth_of hlt
        obtain ⟨b, o, A2, c2, rfl, _, lb, c0, c1, c2', hS⟩ := (HL.out.next HBV.out).at_ hx
        have HX := Lib.hid hx
        have BP := HP.out.next HBV.out
        have p0 : V.drew.cell? ⟨w.heap.size, 0, none⟩ = some (.int .i64 f) := BP.cell 0
        have p1 : V.drew.cell? ⟨w.heap.size, 1, none⟩ = some (.int .i64 tg) := BP.cell 1
        have p2 : V.drew.cell? ⟨w.heap.size, 2, none⟩ = some (.slice none 0 0) := BP.cell 2
        have lp : w.heap.size < V.drew.heap.size := BP.lt
        replace lb : b < V.drew.heap.size := lb
        replace c0 : V.drew.cell? ⟨b, o + t * 3, none⟩ = some (.int .i64 x.fr) := c0
        replace c1 : V.drew.cell? ⟨b, o + t * 3 + 1, none⟩ = some (.int .i64 x.tg) := c1
        replace c2' : V.drew.cell? ⟨b, o + t * 3 + 2, none⟩ = some (.slice A2 x.sl.length c2) := c2'
        obtain ⟨q, hq⟩ : ∃ q, decide (bef f tg x.fr x.tg) = q := ⟨_, rfl⟩
        have HQ := Lib.hid hq
        have hc : Below V.drew.heap.size V.drew V.drew := Below.refl _ _
        clear hx hS BP hq
        go_region_held3 (fun w' => w'.cell? ⟨w.heap.size, 0, none⟩ = some (.int .i64 f) ∧ w'.cell? ⟨w.heap.size, 1, none⟩ = some (.int .i64 tg) ∧ w'.cell? ⟨w.heap.size, 2, none⟩ = some (.slice none 0 0) ∧ w'.cell? ⟨b, o + t * 3, none⟩ = some (.int .i64 x.fr) ∧ w'.cell? ⟨b, o + t * 3 + 1, none⟩ = some (.int .i64 x.tg) ∧ w'.cell? ⟨b, o + t * 3 + 2, none⟩ = some (.slice A2 x.sl.length c2))
          (first | (with_reducible exact ⟨p0, p1, p2, c0, c1, c2'⟩) | (with_reducible exact ⟨(hc.cell (p := ⟨w.heap.size, 0, none⟩) lp).trans p0, (hc.cell (p := ⟨w.heap.size, 1, none⟩) lp).trans p1, (hc.cell (p := ⟨w.heap.size, 2, none⟩) lp).trans p2, (hc.cell (p := ⟨b, o + t * 3, none⟩) lb).trans c0, (hc.cell (p := ⟨b, o + t * 3 + 1, none⟩) lb).trans c1, (hc.cell (p := ⟨b, o + t * 3 + 2, none⟩) lb).trans c2'⟩) | exact ⟨p0, p1, p2, c0, c1, c2'⟩)
          (first
            | (go_at_call 39; refine (before_any f tg x.fr x.tg none A2 0 0 x.sl.length c2 _).mono ?_; rintro e wn ⟨rfl, hb⟩; rw [HQ.out]; replace hc : Below V.drew.heap.size V.drew wn := hc.trans (Below.mono hb hc.size)))
        all_goals
          go_wp2_with fail
          go_meet
          refine ⟨!q, by cases q <;> rfl, ?_, (Below.refl _ V).drew.trans hc⟩
          cases q with
          | true => exact ⟨fun h => (by cases h), fun ⟨y, hy, hn⟩ => by rw [HX.out] at hy; injection hy with hy; subst hy; exact absurd (of_decide_eq_true HQ.out) hn⟩
          | false => exact ⟨fun _ => ⟨x, HX.out, of_decide_eq_false HQ.out⟩, fun _ => rfl⟩
      · have hlt2 : ¬ (n : Int) < L.length := by omega
        have hlt3 : decide ((n : Int) < L.length) = false := decide_eq_false hlt2
        go_region
        all_goals
          go_wp2_with fail
          go_meet
          exact ⟨false, (by first | rfl | go_num), ⟨fun h => (by cases h), fun ⟨y, hy, _⟩ => absurd (get_lt hy) hlt⟩, (Below.refl _ V).drew⟩
    case rest =>
      obtain ⟨q, rfl, hq, hb⟩ := hcut
      have HBX := Lib.hid (HBV.out.trans (hb.mono HBV.out.size))
      have HTX := Lib.hid (HTO.out.below hb)
      have HQ := Lib.hid hq
      clear hb hq
      cases q with
      | true =>
        obtain ⟨x, hx, hnb⟩ := HQ.out.1 rfl
        have hlt := get_lt hx
        obtain ⟨b, o, A2, c2, rfl, _, lb, c0, c1, c2', _⟩ := (HL.out.next HBX.out).at_ hx
        obtain ⟨b9, o9, A9, c9, e9, hb9, c9', hS9⟩ := HLW.out n x hx
        injection e9 with e9
        injection e9 with e91 e92
        subst e91 e92
        have c99 := ((HBU.out.trans (HBX.out.mono HBU.out.size)).cell (p := ⟨b, o + n * 3 + 2, none⟩) hb9).trans c9'
        rw [c2'] at c99
        injection c99 with c99
        injection c99 with e1 _ e3
        subst e1 e3
        have HS := Lib.hid (hS9.inn (w' := wc) fun k _ hl => (HBU.out.trans (HBX.out.mono HBU.out.size)).block k hl)
        have hsl := HSL.out x (List.mem_iff_getElem?.2 ⟨n, hx⟩)
        have hlt2 : 0 ≤ (n : Int) ∧ (n : Int) < L.length := by omega
        have HE : Hid (putS f tg sl L = L.set n ⟨x.fr, x.tg, withL sl x.sl⟩) := Lib.hid (by rw [HAT.out, hx]; simp only []; rw [if_neg hnb])
        obtain ⟨g, cap, rfl, hgb, hgl, hcap, hcm⟩ := HTX.out.form (by omega)
        simp only [maxLen] at hcm
        have HX := Lib.hid hx
        have HGB := Lib.hid hgb
        clear hx hnb hS9 hgb c9'
        go_wp2_with fail
        refine (with_any A2 c2 x.sl sl lo wc HS.out (by omega)).mono ?_
        rintro e W2 ⟨A3, c3, rfl, hS3, hb⟩
        have HB2 := Lib.hid (HBX.out.trans (hb.mono HBX.out.size))
        obtain ⟨hg1, hg2, hcs, hfz, hto⟩ := (HTX.out.below hb).set_ HX.out hS3
        obtain ⟨old, hold⟩ := Option.isSome_iff_exists.1 hcs
        have HTO2 := Lib.hid hto
        clear hb hS3 hcs hto c0 c1 c2'
        go_wp2_with fail
        go_ret
        exact ⟨_, rfl, by rw [HE.out]; exact HTO2.out.lower HBU.out.size HLO0.out, (HBU.out.trans (HB2.out.mono HBU.out.size)).setCell (Nat.le_trans HBU.out.size hg2) _⟩
      | false =>
        have HE : Hid (putS f tg sl L = L.take n ++ [⟨f, tg, [sl]⟩] ++ L.drop n) := Lib.hid (by
          rw [HAT.out]
          cases hx : L[n]? with
          | none =>
            have : L.length ≤ n := List.getElem?_eq_none_iff.1 hx
            simp only []
            rw [List.take_of_length_le this, List.drop_eq_nil_of_le this, List.append_nil]
          | some x =>
            simp only []
            rw [if_pos]
            by_cases hb : bef f tg x.fr x.tg
            · exact hb
            · exact absurd (HQ.out.2 ⟨x, hx, hb⟩) (by decide))
        obtain ⟨Y, hY⟩ : ∃ Y, Y = (wc.alloc (.cells #[.int .i64 sl] 3)).setCell ⟨w.heap.size, 2, none⟩ (.slice (some ⟨wc.heap.size, 0, none⟩) 1 1) := ⟨_, rfl⟩
        have hPX := HP.out.next HBX.out
        have hPA := hPX.alloc (.cells #[.int .i64 sl] 3)
        have HPY : Hid (Blk Y w.heap.size 57 #[.int .i64 f, .int .i64 tg, .slice (some ⟨wc.heap.size, 0, none⟩) 1 1]) := Lib.hid (by rw [hY]; exact hPA.set_ 2 _)
        have hne : wc.heap.size ≠ w.heap.size := by have := hPX.lt; omega
        have HNY : Hid (Blk Y wc.heap.size 3 #[.int .i64 sl]) := Lib.hid (by rw [hY]; exact (Blk.new _ _ _).far (p := ⟨w.heap.size, 2, none⟩) hne _)
        have p0 := hPA.cell 0
        have p1 := hPA.cell 1
        have p2 := hPA.cell 2
        have f2 := hPA.frozen 2
        simp at p0 p1 p2
        have HYS : Hid (wc.heap.size < Y.heap.size) := Lib.hid HNY.out.lt
        have HYE := Lib.hid hY
        have HPU := Lib.hid HP.out.lt
        have HTY : Hid (TOwn Y U.heap.size lo v L) := Lib.hid (HTX.out.but hPX HPU.out HLO0.out (fun b hl hb => by rw [hY]; exact (Below.heap_setCell _ ⟨w.heap.size, 2, none⟩ _ b hb).trans (Below.heap_alloc wc _ b hl)))
        have HSY : Hid (SArr Y (Inn Y lo) (some ⟨wc.heap.size, 0, none⟩) 1 [sl]) := Lib.hid ⟨by simp, by simp only [maxLen]; omega, (fun e => by cases e), fun _ => ⟨_, 0, rfl, .inr ⟨_, _, HNY.out⟩, fun j s hj => by
          have := get_lt hj
          simp at this
          subst this
          simp at hj
          subst hj
          exact HNY.out.cell 0⟩⟩
        have HBY : Hid (Below w.heap.size w Y) := Lib.hid (by rw [hY]; exact ((HBU.out.trans (HBX.out.mono HBU.out.size)).alloc (Nat.le_of_lt (Nat.lt_of_lt_of_le HPU.out HBX.out.size)) _).setCell (Nat.le_refl _) _)
        obtain ⟨AN, hAN⟩ : ∃ b : Nat, wc.heap.size = b := ⟨_, rfl⟩
        rw [hAN] at HPY HSY
        have HAN := Lib.hid hAN
        clear hY hPX hPA hne HNY hAN
        go_upto_region 10 with fail
        rw [← HYE.out, HAN.out]
        clear p0 p1 p2 f2
        have q0 := HPY.out.cell 0
        have q1 := HPY.out.cell 1
        have q2 := HPY.out.cell 2
        simp at q0 q1 q2
        obtain ⟨hlo, vs, hv, hu⟩ := HTY.out
        have hv0 := hv
        obtain ⟨hvl, hv⟩ := hv
        rcases hv with ⟨rfl, hz⟩ | ⟨g, cap, cur, rfl, hgb, hg, hcap, hcm, _, _⟩
        · have hL0 : L = [] := List.length_eq_zero_iff.1 hz
          subst hL0
          have hn0 : n = 0 := by simpa using hnl
          subst hn0
          have HM3 := Lib.hid (show 0 + 1 ≤ maxLen by simp only [maxLen]; omega)
          have HM4 := Lib.hid (show (0 + 1) * 40 ≤ 140737488355328 by omega)
          have HNL := Lib.hid hnl
          have HLO := Lib.hid hlo
          have hvs : vs = [] := List.length_eq_zero_iff.1 (by rw [hvl]; rfl)
          subst hvs
          obtain ⟨W10, hW10⟩ : ∃ W, W = Y := ⟨Y, rfl⟩
          have HG10 : Hid (Below Y.heap.size Y W10) := Lib.hid (by rw [hW10]; exact Below.refl _ _)
          have HU10 : Hid (U.heap.size ≤ W10.heap.size) := Lib.hid (by rw [hW10]; have := HB.out.size; have := HBX.out.size; have := HYS.out; omega)
          have HV1 : Hid (W10.ownsRow U.heap.size 57 3 (.slice none 0 0) 0 []) := Lib.hid (World.ownsRow_nil _ _ _ _)
          have HU10v : Hid (SetV W10 (Inn W10 lo) [] ([] : List SetR)) := Lib.hid SetV.nil
          have r0 : W10.cell? ⟨w.heap.size, 0, none⟩ = some (.int .i64 f) := by rw [hW10]; exact q0
          have r1 : W10.cell? ⟨w.heap.size, 1, none⟩ = some (.int .i64 tg) := by rw [hW10]; exact q1
          have r2 : W10.cell? ⟨w.heap.size, 2, none⟩ = some (.slice (some ⟨AN, 0, none⟩) 1 1) := by rw [hW10]; exact q2
          have HW10 := Lib.hid hW10
          clear hlo hu hnl q0 q1 q2 hv0 hvl hz
          simp only [List.length_nil] at *
          go_wp2_with (at_builtin; refine wpList_append_own_none rfl _ _ 26 rfl U.heap.size 57 j0 3 Try.underlying26 hj0 _ 0 [] rfl (World.ownsRow_nil _ _ _ _) rfl ?_)
          rw [← HW10.out]
          clear hW10
          have L0 : ([] : List SetR).drop 0 = [] := rfl
          have FIN1 : Hid (∀ X W11 v2, X.grownBy W11 (.slice none 0 0 : Value).ownBlock → W11.ownsRow U.heap.size 57 3 v2 (0 + 1) (([] : List Value) ++ [.int .i64 f, .int .i64 tg, .slice (some ⟨AN, 0, none⟩) 1 1]) → Below W10.heap.size W10 X → (SetV W11 (Inn W11 lo) (([] : List Value) ++ [.int .i64 f, .int .i64 tg, .slice (some ⟨AN, 0, none⟩) 1 1]) (([] : List SetR).take 0 ++ [⟨f, tg, [sl]⟩]) ∧ SetV W11 (Inn W11 lo) (([] : List Value)) (([] : List SetR).drop 0) ∧ Below w.heap.size w W11) ∧ (([] : List SetR).drop 0 = [] → TOwn W11 w.heap.size lo v2 (putS f tg sl []) ∧ Below w.heap.size w W11)) := Lib.hid fun X W11 v2 hgr2 hown2 hX => by
            have o1 := ownsRow_keep HV1.out (fun k _ _ hl => hX.block k hl)
            have sX := HU10v.out.below hX
            have hYX : Below Y.heap.size Y X := HG10.out.trans (hX.mono HG10.out.size)
            have nX : SetV X (Inn X lo) [.int .i64 f, .int .i64 tg, .slice (some ⟨AN, 0, none⟩) 1 1] [⟨f, tg, [sl]⟩] := SetV.single (x := ⟨f, tg, [sl]⟩) (HSY.out.inn fun b _ hl => hYX.block b hl)
            have s11 := ((SetV.nil (w := X) (P := Inn X lo)).append nX).grown o1 HLO.out hgr2
            have d11 := (SetV.nil (w := X) (P := Inn X lo)).grown o1 HLO.out hgr2
            have hb : Below w.heap.size w W11 := (HBY.out.trans (hYX.mono HBY.out.size)).grown hgr2 (Nat.le_trans HBY.out.size hYX.size) (fun k hk => by simp [Value.ownBlock] at hk)
            have hl : (([] : List SetR).take 0 ++ [(⟨f, tg, [sl]⟩ : SetR)]).length = 0 + 1 := by have := HNL.out; simp; try omega
            refine ⟨⟨s11, d11, hb⟩, fun hd => ⟨?_, hb⟩⟩
            rw [HE.out, hd, List.append_nil]
            exact TOwn.lower ⟨HLO.out, _, by rw [hl]; exact hown2, s11⟩ HBU.out.size HLO0.out
          have FIN : Hid (∀ X W11 v2 W12 v3, X.grownBy W11 (.slice none 0 0 : Value).ownBlock → W11.ownsRow U.heap.size 57 3 v2 (0 + 1) (([] : List Value) ++ [.int .i64 f, .int .i64 tg, .slice (some ⟨AN, 0, none⟩) 1 1]) → W11.grownBy W12 v2.ownBlock → W12.ownsRow U.heap.size 57 3 v3 (0 + 1 + 0) ((([] : List Value) ++ [.int .i64 f, .int .i64 tg, .slice (some ⟨AN, 0, none⟩) 1 1]) ++ ([] : List Value)) → Below W10.heap.size W10 X → TOwn W12 w.heap.size lo v3 (putS f tg sl []) ∧ Below w.heap.size w W12) := Lib.hid fun X W11 v2 W12 v3 hgr2 hown2 hgr3 hown3 hX => by
            obtain ⟨⟨s11, d11, hb⟩, _⟩ := FIN1.out X W11 v2 hgr2 hown2 hX
            have hl : (([] : List SetR).take 0 ++ [(⟨f, tg, [sl]⟩ : SetR)]).length = 0 + 1 := by have := HNL.out; simp; try omega
            have p := TOwn.push_ HLO.out s11 d11 (by rw [hl]; exact hown2) hgr3 hown3 (by rw [hl, List.length_drop]; try rfl)
            exact ⟨by rw [HE.out]; exact p.lower HBU.out.size HLO0.out, hb.grown hgr3 hb.size (fun k hk => Nat.le_trans HBU.out.size (row_block hown2 k hk))⟩
          have HDN := Lib.hid L0
          have HODa : Hid (∀ o, Below W10.heap.size W10 (W10.drew.alloc o)) := Lib.hid fun o => ((Below.refl _ W10).drew).alloc (Nat.le_refl _) _
          have HODb : Hid (∀ o, Below W10.heap.size W10 (W10.alloc o).drew) := Lib.hid fun o => ((Below.refl _ W10).alloc (Nat.le_refl _) _).drew
          go_upto_region 11 with fail
          go_region_law (first
            | (refine step_wp rfl (wp_append_own _ _ _ 26 rfl U.heap.size 57 j0 _ 3 40 Try.underlying26 hj0 hy0 hy1 hy2 rfl (by decide) (.slice none 0 0) 0 (([] : List Value)) rfl (ownsRow_keep HV1.out fun k _ _ hl => Below.block (show Below W10.heap.size W10 _ from by first | exact HODa.out _ | exact HODb.out _) k hl) ⟨W10.heap.size, 0, none⟩ 1 1 [.int .i64 f, .int .i64 tg, .slice (some ⟨AN, 0, none⟩) 1 1] rfl rfl (three_news (by go_simp) (by go_simp) (by go_simp)) (by simp [Value.oneCell']) HM3.out HM4.out (Nat.le_trans HU10.out (Below.size (show Below W10.heap.size W10 _ from by first | exact HODa.out _ | exact HODb.out _))) ?_)
               intro v2 W11 hown2 hgr2 _)
            | (refine step_append_none rfl _ _ 26 rfl U.heap.size 57 j0 3 Try.underlying26 hj0 v2 (0 + 1) (([] : List Value) ++ [.int .i64 f, .int .i64 tg, .slice (some ⟨AN, 0, none⟩) 1 1]) rfl hown2 rfl ?_))
          all_goals
            go_wp2
            go_ret
            exact ⟨_, rfl, (FIN1.out _ _ _ hgr2 hown2 (by first | exact HODa.out _ | exact HODb.out _)).2 HDN.out⟩
        · have hgl := blk_lt hg
          have HGL := Lib.hid hgl
          have HGB := Lib.hid hgb
          have HLO := Lib.hid hlo
          have HV := Lib.hid hv0
          have HUV := Lib.hid hu
          simp only [maxLen] at hcm
          obtain ⟨ad, had⟩ : ∃ ad, (if cap = n then some (⟨g, 0, none⟩ : Addr) else some ⟨g, n * 3, none⟩) = some ad := by split <;> exact ⟨_, rfl⟩
          have HSRC : Hid (∀ (j : Nat) (u : Value), (vs.drop (n * 3))[j]? = some u → Y.cell? (ad.add j) = some u) := Lib.hid fun j u hu' => by
            have hjl := get_lt hu'
            rw [List.length_drop] at hjl
            rw [if_neg (by omega)] at had
            injection had with had
            subst had
            rw [List.getElem?_drop] at hu'
            have h := own_src hv0 _ u hu'
            rw [add_at] at h ⊢
            rw [Nat.zero_add] at h
            exact h
          have hle1 : (0 : Int) ≤ n ∧ (n : Int) ≤ L.length ∧ (n : Int) ≤ cap := by omega
          have HLD := Lib.hid (show (vs.drop (n * 3)).length = (L.length - n) * 3 by rw [List.length_drop, hvl]; omega)
          have HON : Hid (∀ u ∈ vs.drop (n * 3), u.oneCell' = true) := Lib.hid fun u h => hu.one u (List.mem_of_mem_drop h)
          have HM1 := Lib.hid (show 0 + (L.length - n) ≤ maxLen by simp only [maxLen]; omega)
          have HM2 := Lib.hid (show (0 + (L.length - n)) * 40 ≤ 140737488355328 by omega)
          have HM3 := Lib.hid (show n + 1 ≤ maxLen by simp only [maxLen]; omega)
          have HM4 := Lib.hid (show (n + 1) * 40 ≤ 140737488355328 by omega)
          have HM5 := Lib.hid (show n + 1 + (L.length - n) ≤ maxLen by simp only [maxLen]; omega)
          have HM6 := Lib.hid (show (n + 1 + (L.length - n)) * 40 ≤ 140737488355328 by omega)
          have HNL := Lib.hid hnl
          have HYL := Lib.hid HPY.out.lt
          clear hlo hv0 hu hg hgl hnl hvl hgb
          go_wp2_with (at_builtin; refine wpList_append_own _ rfl _ _ 26 rfl Y.heap.size 57 j0 _ 3 40 Try.underlying26 hj0 hy0 hy1 hy2 rfl (by decide) (.slice none 0 0) 0 [] rfl (World.ownsRow_nil _ _ _ _) ad (L.length - n) (cap - n) (vs.drop (n * 3)) rfl HLD.out HSRC.out HON.out HM1.out HM2.out (Nat.le_refl _) ?_)
          intro vR W10 hownR hgrR _
          try simp only [Nat.zero_add, List.nil_append] at hownR
          have HG10 := Lib.hid (grown_nil hgrR)
          have HVR := Lib.hid hownR
          have HU10 : Hid (U.heap.size ≤ W10.heap.size) := Lib.hid (Nat.le_trans (by have := HB.out.size; have := HBX.out.size; have := HYS.out; omega) HG10.out.size)
          have hlY := HPY.out.lt
          have r0 := (HG10.out.cell (p := ⟨w.heap.size, 0, none⟩) hlY).trans q0
          have r1 := (HG10.out.cell (p := ⟨w.heap.size, 1, none⟩) hlY).trans q1
          have r2 := (HG10.out.cell (p := ⟨w.heap.size, 2, none⟩) hlY).trans q2
          have HV10 := Lib.hid (ownsRow_keep (w' := W10) HV.out fun k _ _ hl => HG10.out.block k hl)
          have HV1 := Lib.hid (ownsRow_take HV10.out HNL.out)
          have HU10v := Lib.hid (HUV.out.below HG10.out)
          have HDIS : Hid (∀ k, Y.heap.size ≤ k → some k ≠ (Value.slice (some ⟨g, 0, none⟩) n cap).ownBlock) := Lib.hid fun k hk e => by
            simp [Value.ownBlock] at e
            have := HGL.out
            omega
          clear hownR hgrR had q0 q1 q2
          have FIN1 : Hid (∀ X W11 v2, X.grownBy W11 (.slice (some ⟨g, 0, none⟩) n cap : Value).ownBlock → W11.ownsRow U.heap.size 57 3 v2 (n + 1) (vs.take (n * 3) ++ [.int .i64 f, .int .i64 tg, .slice (some ⟨AN, 0, none⟩) 1 1]) → Below W10.heap.size W10 X → (SetV W11 (Inn W11 lo) (vs.take (n * 3) ++ [.int .i64 f, .int .i64 tg, .slice (some ⟨AN, 0, none⟩) 1 1]) (L.take n ++ [⟨f, tg, [sl]⟩]) ∧ SetV W11 (Inn W11 lo) (vs.drop (n * 3)) (L.drop n) ∧ Below w.heap.size w W11) ∧ (L.drop n = [] → TOwn W11 w.heap.size lo v2 (putS f tg sl L) ∧ Below w.heap.size w W11)) := Lib.hid fun X W11 v2 hgr2 hown2 hX => by
            have o1 := ownsRow_keep HV1.out (fun k _ _ hl => hX.block k hl)
            have sX := HU10v.out.below hX
            have hYX : Below Y.heap.size Y X := HG10.out.trans (hX.mono HG10.out.size)
            have nX : SetV X (Inn X lo) [.int .i64 f, .int .i64 tg, .slice (some ⟨AN, 0, none⟩) 1 1] [⟨f, tg, [sl]⟩] := SetV.single (x := ⟨f, tg, [sl]⟩) (HSY.out.inn fun b _ hl => hYX.block b hl)
            have s11 := ((sX.take n HNL.out).append nX).grown o1 HLO.out hgr2
            have d11 := (sX.drop n).grown o1 HLO.out hgr2
            have hb : Below w.heap.size w W11 := (HBY.out.trans (hYX.mono HBY.out.size)).grown hgr2 (Nat.le_trans HBY.out.size hYX.size) (fun k hk => by simp [Value.ownBlock] at hk; subst hk; exact Nat.le_trans HBU.out.size HGB.out)
            have hl : (L.take n ++ [(⟨f, tg, [sl]⟩ : SetR)]).length = n + 1 := by have := HNL.out; simp; try omega
            refine ⟨⟨s11, d11, hb⟩, fun hd => ⟨?_, hb⟩⟩
            rw [HE.out, hd, List.append_nil]
            exact TOwn.lower ⟨HLO.out, _, by rw [hl]; exact hown2, s11⟩ HBU.out.size HLO0.out
          have FIN : Hid (∀ X W11 v2 W12 v3, X.grownBy W11 (.slice (some ⟨g, 0, none⟩) n cap : Value).ownBlock → W11.ownsRow U.heap.size 57 3 v2 (n + 1) (vs.take (n * 3) ++ [.int .i64 f, .int .i64 tg, .slice (some ⟨AN, 0, none⟩) 1 1]) → W11.grownBy W12 v2.ownBlock → W12.ownsRow U.heap.size 57 3 v3 (n + 1 + (L.length - n)) ((vs.take (n * 3) ++ [.int .i64 f, .int .i64 tg, .slice (some ⟨AN, 0, none⟩) 1 1]) ++ vs.drop (n * 3)) → Below W10.heap.size W10 X → TOwn W12 w.heap.size lo v3 (putS f tg sl L) ∧ Below w.heap.size w W12) := Lib.hid fun X W11 v2 W12 v3 hgr2 hown2 hgr3 hown3 hX => by
            obtain ⟨⟨s11, d11, hb⟩, _⟩ := FIN1.out X W11 v2 hgr2 hown2 hX
            have hl : (L.take n ++ [(⟨f, tg, [sl]⟩ : SetR)]).length = n + 1 := by have := HNL.out; simp; try omega
            have p := TOwn.push_ HLO.out s11 d11 (by rw [hl]; exact hown2) hgr3 hown3 (by rw [hl, List.length_drop]; try rfl)
            exact ⟨by rw [HE.out]; exact p.lower HBU.out.size HLO0.out, hb.grown hgr3 hb.size (fun k hk => Nat.le_trans HBU.out.size (row_block hown2 k hk))⟩
          rcases HVR.out.2 with ⟨rfl, hz⟩ | ⟨gR, cR, curR, rfl, _⟩
          · have HDN := Lib.hid (show L.drop n = [] from List.drop_eq_nil_of_le (by have := HNL.out; omega))
            have HODa : Hid (∀ o, Below W10.heap.size W10 (W10.drew.alloc o)) := Lib.hid fun o => ((Below.refl _ W10).drew).alloc (Nat.le_refl _) _
            have HODb : Hid (∀ o, Below W10.heap.size W10 (W10.alloc o).drew) := Lib.hid fun o => ((Below.refl _ W10).alloc (Nat.le_refl _) _).drew
            go_upto_region 11 with fail
            go_region_law (first
              | (refine step_wp rfl (wp_append_own _ _ _ 26 rfl U.heap.size 57 j0 _ 3 40 Try.underlying26 hj0 hy0 hy1 hy2 rfl (by decide) (.slice (some ⟨g, 0, none⟩) n cap) n (vs.take (n * 3)) rfl (ownsRow_keep HV1.out fun k _ _ hl => Below.block (show Below W10.heap.size W10 _ from by first | exact HODa.out _ | exact HODb.out _) k hl) ⟨W10.heap.size, 0, none⟩ 1 1 [.int .i64 f, .int .i64 tg, .slice (some ⟨AN, 0, none⟩) 1 1] rfl rfl (three_news (by go_simp) (by go_simp) (by go_simp)) (by simp [Value.oneCell']) HM3.out HM4.out (Nat.le_trans HU10.out (Below.size (show Below W10.heap.size W10 _ from by first | exact HODa.out _ | exact HODb.out _))) ?_)
                 intro v2 W11 hown2 hgr2 _)
              | (refine step_append_none rfl _ _ 26 rfl U.heap.size 57 j0 3 Try.underlying26 hj0 v2 (n + 1) (vs.take (n * 3) ++ [.int .i64 f, .int .i64 tg, .slice (some ⟨AN, 0, none⟩) 1 1]) rfl hown2 rfl ?_))
            all_goals
              go_wp2
              go_ret
              exact ⟨_, rfl, (FIN1.out _ _ _ hgr2 hown2 (by first | exact HODa.out _ | exact HODb.out _)).2 HDN.out⟩
          ·
            have HODa : Hid (∀ o, Below W10.heap.size W10 (W10.drew.alloc o)) := Lib.hid fun o => ((Below.refl _ W10).drew).alloc (Nat.le_refl _) _
            have HODb : Hid (∀ o, Below W10.heap.size W10 (W10.alloc o).drew) := Lib.hid fun o => ((Below.refl _ W10).alloc (Nat.le_refl _) _).drew
            go_upto_region 11 with fail
            go_region_law (first
              | (refine step_wp rfl (wp_append_own _ _ _ 26 rfl U.heap.size 57 j0 _ 3 40 Try.underlying26 hj0 hy0 hy1 hy2 rfl (by decide) (.slice (some ⟨g, 0, none⟩) n cap) n (vs.take (n * 3)) rfl (ownsRow_keep HV1.out fun k _ _ hl => Below.block (show Below W10.heap.size W10 _ from by first | exact HODa.out _ | exact HODb.out _) k hl) ⟨W10.heap.size, 0, none⟩ 1 1 [.int .i64 f, .int .i64 tg, .slice (some ⟨AN, 0, none⟩) 1 1] rfl rfl (three_news (by go_simp) (by go_simp) (by go_simp)) (by simp [Value.oneCell']) HM3.out HM4.out (Nat.le_trans HU10.out (Below.size (show Below W10.heap.size W10 _ from by first | exact HODa.out _ | exact HODb.out _))) ?_)
                 intro v2 W11 hown2 hgr2 _)
              | (refine step_wp rfl (wp_append_own _ _ _ 26 rfl U.heap.size 57 j0 _ 3 40 Try.underlying26 hj0 hy0 hy1 hy2 rfl (by decide) v2 (n + 1) (vs.take (n * 3) ++ [.int .i64 f, .int .i64 tg, .slice (some ⟨AN, 0, none⟩) 1 1]) rfl hown2 ⟨gR, 0, none⟩ (L.length - n) cR (vs.drop (n * 3)) rfl HLD.out (own_src (ownsRow_keep HVR.out fun k hk hk2 hl => (hgr2.block k (Nat.lt_of_lt_of_le hl (Below.size (show Below W10.heap.size W10 _ from by first | exact HODa.out _ | exact HODb.out _))) (HDIS.out k hk2)).trans (Below.block (show Below W10.heap.size W10 _ from by first | exact HODa.out _ | exact HODb.out _) k hl))) HON.out HM5.out HM6.out (Nat.le_trans (Nat.le_trans HU10.out (Below.size (show Below W10.heap.size W10 _ from by first | exact HODa.out _ | exact HODb.out _))) hgr2.size) ?_)
                 intro v3 W12 hown3 hgr3 _))
            all_goals
              go_wp2
              go_ret
              exact ⟨_, rfl, FIN.out _ _ _ _ _ hgr2 hown2 hgr3 hown3 (by first | exact HODa.out _ | exact HODb.out _)⟩
theorem putT_any (A : Option Addr) (c : Nat) (L : List SetR) (f tg sl : Int) (w : World) (hL : TArr w (Lt w.heap.size) A c L) (hn : L.length ≤ 1048000) (hs : ∀ x ∈ L, x.sl.length ≤ 1048000) :
    Calls Try.prog 23 #[.slice A L.length c, .int .i64 f, .int .i64 tg, .int .i64 sl] w (GivesT (putS f tg sl L) w.heap.size w) :=
  putX_any A c L f tg sl w.heap.size w (Nat.le_refl _) hL (hL.tin (Nat.le_refl _)) hn hs
end Go.Proofs.Ytjkbjbikofindaa
