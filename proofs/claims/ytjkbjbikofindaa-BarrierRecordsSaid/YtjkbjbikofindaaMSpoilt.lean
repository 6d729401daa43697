/-
  Merged: Spoilt.
-/
import Derived.Test.YtjkbjbikofindaaMSpace
import Derived.Test.YtjkbjbikofindaaMRef
import Derived.Deep.RegionWith
import Derived.Deep.CutBlock
import Derived.Deep.DeepCutAuto
namespace Go.Proofs.Ytjkbjbikofindaa
open Go.RowKit
set_option maxRecDepth 100000
set_option linter.unusedVariables false

theorem small_any (s : Int) (A A' : Option Addr) (nw c n c' : Nat) (w : World) :
    Calls Try.prog 5 #[.agg #[.int .i64 s, .slice A nw c, .slice A' n c']] w fun e w' => e = .returned (.bool (decide (nw ≤ 3000) && decide (n ≤ 80))) ∧ Below w.heap.size w w' := by
  have hb : Below w.heap.size w (w.alloc (.cells #[.int .i64 s, .slice A nw c, .slice A' n c'] 25)) := (Below.refl _ _).alloc (Nat.le_refl _) _
  by_cases h1 : nw ≤ 3000
  · have e1 : (nw : Int) ≤ 3000 := by omega
    by_cases h2 : n ≤ 80
    · have e2 : (n : Int) ≤ 80 := by omega
      go_enter Try.func5, Try.ntmps5
      go_wp2
      go_ret
      exact ⟨by simp [h1, h2], hb⟩
    · have e2 : ¬ (n : Int) ≤ 80 := by omega
      go_enter Try.func5, Try.ntmps5
      go_wp2
      go_ret
      exact ⟨by simp, hb⟩
  · have e1 : ¬ (nw : Int) ≤ 3000 := by omega
    go_enter Try.func5, Try.ntmps5
    go_wp2
    go_ret
    exact ⟨by simp, hb⟩

theorem Own.ownsRow {w : World} {base n c : Nat} {A : Option Addr} {f : Nat → Int} (h : Own w base A n c f) : w.ownsRow base 28 1 (.slice A n c) n (wordsOf n f) := by
  obtain ⟨h1, h2, h3⟩ := h
  refine ⟨by rw [wordsOf_length, Nat.mul_one], ?_⟩
  rcases h3 with ⟨rfl, rfl⟩ | ⟨g, cur, rfl, hb, hh, hs, hc⟩
  · obtain rfl : n = 0 := by omega
    exact .inl ⟨rfl, rfl⟩
  · refine .inr ⟨g, c, cur, rfl, hb, hh, h1, h2, by omega, ?_⟩
    apply List.ext_getElem?
    intro j
    rw [List.getElem?_take]
    rcases Nat.lt_or_ge j n with hl | hg
    · rw [if_pos (by omega), wordsOf_get n f j hl]
      simpa using hc j hl
    · rw [if_neg (by omega), List.getElem?_eq_none (by rw [wordsOf_length]; omega)]

/-- One cell of a table turned: a table still. -/
theorem OwnT.poke {w : World} {base n c g : Nat} {F : Nat → Fr} (h : OwnT w base (some ⟨g, 0, none⟩) n c F) (i : Nat) (hi : i < n) (r : Nat) (hr : r < 3) (v : Int) : ∃ F', OwnT (w.setCell ⟨g, i * 3 + r, none⟩ (.int .i64 v)) base (some ⟨g, 0, none⟩) n c F' := by
  obtain ⟨h1, h2, h3⟩ := h
  rcases h3 with ⟨h3, _⟩ | ⟨g0, cur, hA, hb, hg, hs, hc⟩
  · cases h3
  · injection hA with hA
    injection hA with hA
    subst hA
    refine ⟨fun j => if j = i then (if r = 0 then ⟨v, (F j).st, (F j).nx⟩ else if r = 1 then ⟨(F j).ow, v, (F j).nx⟩ else ⟨(F j).ow, (F j).st, v⟩) else F j, h1, h2, .inr ⟨g, cur.setIfInBounds (i * 3 + r) (.int .i64 v), rfl, hb, by simp [World.setCell, Array.getElem?_modify, hg], by simpa using hs, fun j hj => ?_⟩⟩
    obtain ⟨c0, c1, c2⟩ := hc j hj
    by_cases e : j = i
    · subst e
      have hz : j * 3 + 2 < cur.size := by omega
      rcases (show r = 0 ∨ r = 1 ∨ r = 2 by omega) with e | e | e <;> subst e
      · have k1 : ¬ j * 3 + 0 = j * 3 + 1 := by omega
        have k2 : ¬ j * 3 + 0 = j * 3 + 2 := by omega
        have k3 : j * 3 + 0 < cur.size := by omega
        refine ⟨?_, ?_, ?_⟩
        · rw [Array.getElem?_setIfInBounds, if_pos (by omega), if_pos k3]; simp
        · rw [Array.getElem?_setIfInBounds, if_neg k1]; simpa using c1
        · rw [Array.getElem?_setIfInBounds, if_neg k2]; simpa using c2
      · have k1 : ¬ j * 3 + 1 = j * 3 := by omega
        have k2 : ¬ j * 3 + 1 = j * 3 + 2 := by omega
        have k3 : j * 3 + 1 < cur.size := by omega
        refine ⟨?_, ?_, ?_⟩
        · rw [Array.getElem?_setIfInBounds, if_neg k1]; simpa using c0
        · rw [Array.getElem?_setIfInBounds, if_pos rfl, if_pos k3]; simp
        · rw [Array.getElem?_setIfInBounds, if_neg k2]; simpa using c2
      · have k1 : ¬ j * 3 + 2 = j * 3 := by omega
        have k2 : ¬ j * 3 + 2 = j * 3 + 1 := by omega
        refine ⟨?_, ?_, ?_⟩
        · rw [Array.getElem?_setIfInBounds, if_neg k1]; simpa using c0
        · rw [Array.getElem?_setIfInBounds, if_neg k2]; simpa using c1
        · rw [Array.getElem?_setIfInBounds, if_pos rfl, if_pos hz]; simp
    · have k0 : ¬ i * 3 + r = j * 3 := by omega
      have k1 : ¬ i * 3 + r = j * 3 + 1 := by omega
      have k2 : ¬ i * 3 + r = j * 3 + 2 := by omega
      simp only [Array.getElem?_setIfInBounds, if_neg k0, if_neg k1, if_neg k2, if_neg e]
      exact ⟨c0, c1, c2⟩

def SpoiltOf (P : Prop) (nw n : Nat) (w : World) (e : Ending) (w' : World) : Prop :=
  ∃ (k : Int) (nw' c g c' : Nat) (A : Option Addr) (wd : Nat → Int) (F : Nat → Fr), e = .returned (.agg #[.int .i64 k, .slice A nw' c, .slice (some ⟨g, 0, none⟩) n c']) ∧ nw ≤ nw' ∧ nw' ≤ nw + 1 ∧ Own w' w.heap.size A nw' c wd ∧ OwnT w' w.heap.size (some ⟨g, 0, none⟩) n c' F ∧ Below w.heap.size w w' ∧ (P → U64w nw' wd)

structure Spoiling (P : Prop) (w W : World) (b nw n : Nat) (k : Int) (A : Option Addr) (nw' c g c' : Nat) : Prop where
  bx : Blk W b 25 #[.int .i64 k, .slice A nw' c, .slice (some ⟨g, 0, none⟩) n c']
  br : Blk W (w.heap.size + 1) 25 #[.int .i64 0, .slice none 0 0, .slice none 0 0]
  own : ∃ wd, Own W (w.heap.size + 2) A nw' c wd ∧ (P → U64w nw' wd)
  ownT : ∃ F, OwnT W (w.heap.size + 2) (some ⟨g, 0, none⟩) n c' F
  below : Below w.heap.size w W
  lo : nw ≤ nw'
  hi : nw' ≤ nw + 1
theorem Spoiling.end {P : Prop} {w W : World} {b nw n nw' c g c' : Nat} {k : Int} {A : Option Addr} (h : Spoiling P w W b nw n k A nw' c g c') (v0 v1 v2 : Value) :
    SpoiltOf P nw n w (.returned (.agg #[.int .i64 k, .slice A nw' c, .slice (some ⟨g, 0, none⟩) n c'])) (((W.setCell ⟨w.heap.size + 1, 0, none⟩ v0).setCell ⟨w.heap.size + 1, 1, none⟩ v1).setCell ⟨w.heap.size + 1, 2, none⟩ v2) := by
  obtain ⟨_, _, ⟨wd, ho, hu⟩, ⟨F, ht⟩, hb, h1, h2⟩ := h
  exact ⟨k, nw', c, g, c', A, wd, F, rfl, h1, h2, (ho.put3 (by omega) _ _ _).lower (by omega), (ht.put3 (by omega) _ _ _).lower (by omega), below_put3 hb (by omega) _ _ _, hu⟩
/-- One cell of the table turned. -/
theorem Spoiling.poke {P : Prop} {w W : World} {b nw n nw' c g c' : Nat} {k : Int} {A : Option Addr} (h : Spoiling P w W b nw n k A nw' c g c') (hg : g < b) (i : Nat) (hi : i < n) (r : Nat) (hr : r < 3) (v : Int) : Spoiling P w (W.setCell ⟨g, i * 3 + r, none⟩ (.int .i64 v)) b nw n k A nw' c g c' := by
  obtain ⟨bx, br, ⟨wd, ho, hu⟩, ⟨F, ht⟩, hb, h1, h2⟩ := h
  have hbase : w.heap.size + 2 ≤ g := by
    obtain ⟨g1, _⟩ := ht.spotAt i hi ⟨0, 0, 0⟩
    exact g1
  obtain ⟨F', ht'⟩ := ht.poke i hi r hr v
  exact ⟨bx.far (p := ⟨g, i * 3 + r, none⟩) (show b ≠ g by omega) _, br.far (p := ⟨g, i * 3 + r, none⟩) (show w.heap.size + 1 ≠ g by omega) _, ⟨wd, ho.beside ht (turn_set (turn_below (Below.refl _ _)) _ _), hu⟩, ⟨F', ht'⟩, hb.setCell (p := ⟨g, i * 3 + r, none⟩) (show w.heap.size ≤ g by omega) _, h1, h2⟩
theorem Spoiling.drew {P : Prop} {w W : World} {b nw n nw' c g c' : Nat} {k : Int} {A : Option Addr} (h : Spoiling P w W b nw n k A nw' c g c') : Spoiling P w W.drew b nw n k A nw' c g c' :=
  ⟨h.bx, h.br, h.own, h.ownT, h.below.drew, h.lo, h.hi⟩

theorem Spoiling.word {P : Prop} {w W : World} {b nw n nw' c g c' g3 : Nat} {k : Int} (h : Spoiling P w W b nw n k (some ⟨g3, 0, none⟩) nw' c g c') (hg : b ≠ g3) (x : Nat) (hx : x < nw') (v : Int) (hv : 0 ≤ v ∧ v < 18446744073709551616) : Spoiling P w (W.setCell ⟨g3, x, none⟩ (.int .u64 v)) b nw n k (some ⟨g3, 0, none⟩) nw' c g c' := by
  obtain ⟨bx, br, ⟨wd, ho, hu⟩, ⟨F, ht⟩, hb, h1, h2⟩ := h
  obtain ⟨g4, e, hbase, _, _, _, hn⟩ := ho.spot x hx v
  injection e with e
  injection e with e
  subst e
  exact ⟨bx.far (p := ⟨g3, x, none⟩) hg _, br.far (p := ⟨g3, x, none⟩) (show w.heap.size + 1 ≠ g3 by omega) _, ⟨_, hn, fun hP j hj => by
    show 0 ≤ (if j = x then v else wd j) ∧ (if j = x then v else wd j) < 18446744073709551616
    by_cases e : j = x
    · rw [if_pos e]; exact hv
    · rw [if_neg e]; exact hu hP j hj⟩, ⟨F, (ht.beside ho (turn_set (turn_below (Below.refl _ _)) _ _)).1⟩, hb.setCell (p := ⟨g3, x, none⟩) (show w.heap.size ≤ g3 by omega) _, h1, h2⟩
theorem Spoiling.shift {P : Prop} {w W : World} {b nw n nw' c g c' : Nat} {k : Int} {A : Option Addr} (h : Spoiling P w W b nw n k A nw' c g c') (hb : w.heap.size + 2 ≤ b) (v : Int) : Spoiling P w (W.setCell ⟨b, 0, none⟩ (.int .i64 v)) b nw n v A nw' c g c' := by
  obtain ⟨bx, br, ⟨wd, ho, hu⟩, ⟨F, ht⟩, hB, h1, h2⟩ := h
  exact ⟨bx.set_ 0 _, br.far (p := ⟨b, 0, none⟩) (show w.heap.size + 1 ≠ b by omega) _, ⟨wd, ho.box bx (by decide) 0 _, hu⟩, ⟨F, ht.box bx (by decide) 0 _⟩, hB.setCell (p := ⟨b, 0, none⟩) (show w.heap.size ≤ b by omega) _, h1, h2⟩
theorem Spoiling.entry {P : Prop} {w W : World} {b nw n nw' c g c' i : Nat} {k : Int} {A : Option Addr} {F : Nat → Fr} {v0 v1 v2 : Value} (h : Spoiling P w W b nw n k A nw' c g c') (hg : g < b) (hb2 : w.heap.size + 2 ≤ g) (hn : OwnT (((W.setCell ⟨g, i * 3, none⟩ v0).setCell ⟨g, i * 3 + 1, none⟩ v1).setCell ⟨g, i * 3 + 2, none⟩ v2) (w.heap.size + 2) (some ⟨g, 0, none⟩) n c' F) :
    Spoiling P w (((W.setCell ⟨g, i * 3, none⟩ v0).setCell ⟨g, i * 3 + 1, none⟩ v1).setCell ⟨g, i * 3 + 2, none⟩ v2) b nw n k A nw' c g c' := by
  obtain ⟨bx, br, ⟨wd, ho, hu⟩, ⟨F, ht⟩, hB, h1, h2⟩ := h
  exact ⟨bx.far3 (by omega) _ _ _, br.far3 (by omega) _ _ _, ⟨wd, ho.beside ht (turn_set3 (turn_below (Below.refl _ _)) _ _ _ _ _ _), hu⟩, ⟨_, hn⟩, below_set3 hB (by omega) _ _ _, h1, h2⟩

theorem Blk.rowT {w w' : World} {b : Nat} {t t' : TypeId} {cs : Array Value} {row : Option Nat} (h : Blk w b t cs) (hG : w.grownBy w' row) (hr : ∀ x, row = some x → ∃ cs, Blk w x t' cs) (ht : t ≠ t') : Blk w' b t cs :=
  h.row hG fun e => by
    obtain ⟨cs', h'⟩ := hr _ e
    unfold Blk at h h'
    rw [h] at h'
    injection h' with h'
    injection h' with _ h'
    exact ht h'
theorem Spoiling.next {P : Prop} {w W W' : World} {b nw n nw' c g c' : Nat} {k : Int} {A : Option Addr} (h : Spoiling P w W b nw n k A nw' c g c') (hb : Below W.heap.size W W') : Spoiling P w W' b nw n k A nw' c g c' := by
  obtain ⟨bx, br, ⟨wd, ho, hu⟩, ⟨F, ht⟩, hB, h1, h2⟩ := h
  exact ⟨bx.next hb, br.next hb, ⟨wd, ho.below hb, hu⟩, ⟨F, ht.below hb⟩, below_next hB (Nat.le_refl _) hb, h1, h2⟩
theorem Spoiling.app {P : Prop} {w W W' : World} {b nw n c g c' c2 : Nat} {k : Int} {A A2 : Option Addr} {wd2 : Nat → Int} (h : Spoiling P w W b nw n k A nw c g c') (hw : w.heap.size + 2 ≤ W.heap.size) (hb2 : w.heap.size + 2 ≤ b) (hG : W.grownBy W' (Value.slice A nw c).ownBlock) (ho2 : Own W' (w.heap.size + 2) A2 (nw + 1) c2 wd2) (hu2 : P → U64w (nw + 1) wd2) :
    Spoiling P w (W'.setCell ⟨b, 1, none⟩ (.slice A2 (nw + 1) c2)) b nw n k A2 (nw + 1) c2 g c' := by
  obtain ⟨bx, br, ⟨wd, ho, hu⟩, ⟨F, ht⟩, hB, h1, h2⟩ := h
  have hr := row_type ho.ownsRow
  have hrb := row_block ho.ownsRow
  have bx' := bx.rowT hG hr (by decide)
  exact ⟨bx'.set_ 1 _, (br.rowT hG hr (by decide)).far (p := ⟨b, 1, none⟩) (show w.heap.size + 1 ≠ b by omega) _, ⟨_, ho2.box bx' (by decide) 1 _, hu2⟩, ⟨F, (ht.row hG hr (by decide)).box bx' (by decide) 1 _⟩,
    (hB.grown hG (by omega) (fun x hx => by have := hrb x hx; omega)).setCell (p := ⟨b, 1, none⟩) (show w.heap.size ≤ b by omega) _, by omega, Nat.le_refl _⟩

theorem u64_wrap {x : Int} : 0 ≤ IntKind.u64.wrap x ∧ IntKind.u64.wrap x < 18446744073709551616 := by
  have e : IntKind.u64.wrap x = x % 18446744073709551616 := by simp [IntKind.wrap, IntKind.signed, IntKind.bits]
  omega

set_option maxRecDepth 100000 in
set_option maxHeartbeats 4000000 in
theorem spoilt8_any (k : Int) (A A' : Option Addr) (nw c n c' : Nat) (wd : Nat → Int) (F : Nat → Fr) (a1 a2 a3 : Int) (w : World) (hA : Arr w w.heap.size A nw c wd) (hT : Tab w w.heap.size A' n c' F) (hn : n ≤ 4096) (hn0 : 0 < n) (hw : nw ≤ 1000000) (hw0 : 0 < nw)
    (l1 : -9223372036854775808 ≤ a1) (u1 : a1 ≤ 9223372036854775807) (l2 : -9223372036854775808 ≤ a2) (u2 : a2 ≤ 9223372036854775807) (l3 : -9223372036854775808 ≤ a3) (u3 : a3 ≤ 9223372036854775807) :
    Calls Try.prog 14 #[.agg #[.int .i64 k, .slice A nw c, .slice A' n c'], .int .i64 a1, .int .i64 a2, .int .i64 a3] w (SpoiltOf (U64w nw wd) nw n w) := by
  obtain ⟨i0, hi0, hz0, hz1, hz2⟩ := info_parts word_info
  obtain ⟨U, hU⟩ : ∃ U, U = (w.alloc (.cells #[.int .i64 k, .slice A nw c, .slice A' n c'] 25)).alloc (.cells #[.int .i64 0, .slice none 0 0, .slice none 0 0] 25) := ⟨_, rfl⟩
  have BU : Blk U w.heap.size 25 #[.int .i64 k, .slice A nw c, .slice A' n c'] := by rw [hU]; exact (Blk.new _ _ _).alloc _
  have BR := Lib.hid (show Blk U (w.heap.size + 1) 25 #[.int .i64 0, .slice none 0 0, .slice none 0 0] by rw [hU]; exact Blk.newAt _ _ _ _ (by simp))
  have hbu : Below w.heap.size w U := by rw [hU]; exact ((Below.refl _ _).alloc (Nat.le_refl _) _).alloc (by simp) _
  have HBU := Lib.hid hbu
  have HU := Lib.hid hU
  have HA := Lib.hid (hA.next hbu)
  have HT := Lib.hid (hT.next hbu)
  have hus : w.heap.size + 2 ≤ U.heap.size := by rw [hU]; simp
  clear hA hT hU hbu
  go_enter Try.func14, Try.ntmps14
  go_wp2_with fail
  rw [← HU.out]
  refine (copy_any k A A' nw c n c' wd F U HA.out HT.out hn hn0 (by omega)).mono ?_
  rintro e w1 ⟨A1, ca, g, c1', rfl, ho, ht, hb⟩
  have BR1 := Lib.hid (BR.out.next hb)
  have HB1 := Lib.hid (below_next HBU.out (Nat.le_refl _) hb)
  have HO1 := Lib.hid (ho.lower hus)
  have HA1 := Lib.hid ho.arr
  have HT1 := Lib.hid (ht.lower hus)
  have z1 : U.heap.size ≤ w1.heap.size := hb.size
  clear ho ht hb BR HBU HA HT BU HU
  go_wp2_with fail
  obtain ⟨V, hV⟩ : ∃ V, V = w1.alloc (.cells #[.int .i64 k, .slice A1 nw ca, .slice (some ⟨g, 0, none⟩) n c1'] 25) := ⟨_, rfl⟩
  have hbv : Below w1.heap.size w1 V := by rw [hV]; exact (Below.refl _ _).alloc (Nat.le_refl _) _
  have BX := Lib.hid (show Blk V w1.heap.size 25 #[.int .i64 k, .slice A1 nw ca, .slice (some ⟨g, 0, none⟩) n c1'] by rw [hV]; exact Blk.new _ _ _)
  have BR2 := Lib.hid (BR1.out.next hbv)
  have HB2 := Lib.hid (below_next HB1.out (Nat.le_refl _) hbv)
  have HO2 := Lib.hid (HO1.out.below hbv)
  have HT2 := Lib.hid (HT1.out.below hbv)
  rw [← hV]
  have hgw : g < w1.heap.size := by
    obtain ⟨b, o, e, hb⟩ := HT1.out.tab.base_ hn0
    injection e with e
    injection e with e
    omega
  clear hV hbv BR1 HB1 HO1 HT1
  obtain ⟨f, hf, f1⟩ : ∃ f : Nat, a2 % (n : Int) = f ∧ f < n := ⟨(a2 % (n : Int)).toNat, by rw [Int.toNat_of_nonneg (Int.emod_nonneg _ (by omega))], by have := Int.emod_lt_of_pos a2 (show 0 < (n : Int) by omega); have := Int.emod_nonneg a2 (show (n : Int) ≠ 0 by omega); omega⟩
  obtain ⟨x, hx, x1⟩ : ∃ x : Nat, a2 % (nw : Int) = x ∧ x < nw := ⟨(a2 % (nw : Int)).toNat, by rw [Int.toNat_of_nonneg (Int.emod_nonneg _ (by omega))], by have := Int.emod_lt_of_pos a2 (show 0 < (nw : Int) by omega); have := Int.emod_nonneg a2 (show (nw : Int) ≠ 0 by omega); omega⟩
  obtain ⟨m, hm, m1⟩ : ∃ m : Nat, a1 % 8 = m ∧ m < 8 := ⟨(a1 % 8).toNat, by omega, by omega⟩
  have HF := Lib.hid hf
  have HX := Lib.hid hx
  have HM := Lib.hid hm
  have HS := Lib.hid (show Spoiling (U64w nw wd) w V w1.heap.size nw n k A1 nw ca g c1' from ⟨BX.out, BR2.out, ⟨_, HO2.out, id⟩, ⟨_, HT2.out⟩, HB2.out, Nat.le_refl _, by omega⟩)
  have q0 := BX.out.cell 0
  have q1 := BX.out.cell 1
  have q2 := BX.out.cell 2
  have e0 := BX.out.frozen 0
  have e1 := BX.out.frozen 1
  have e2 := BX.out.frozen 2
  simp at q0 q1 q2
  have z2 : w1.heap.size < V.heap.size := BX.out.lt
  have hne : w1.heap.size ≠ g := by omega
  clear hf hx hm
  go_wp2_with fail
  refine (mod_any a2 n (by omega) (by omega) l2 u2 _).mono ?_
  rintro e w' ⟨rfl, rfl⟩
  rw [HF.out]
  go_wp2_with fail
  refine (mod_any a1 8 (by omega) (by omega) l1 u1 _).mono ?_
  rintro e w' ⟨rfl, rfl⟩
  rw [HM.out]
  clear HF HM
  have hfn : 0 ≤ (f : Int) ∧ (f : Int) < n := by omega
  have hxn : 0 ≤ (x : Int) ∧ (x : Int) < nw := by omega
  have zr : w.heap.size + 1 < V.heap.size := by omega
  go_upto_block 0 with fail
  go_cut [] (fun wx => ∃ k' A' nw' c'', Spoiling (U64w nw wd) w wx w1.heap.size nw n k' A' nw' c'' g c1')
  case first =>
    rcases (by omega : m = 0 ∨ m = 1 ∨ m = 2 ∨ m = 3 ∨ m = 4 ∨ m = 5 ∨ m = 6 ∨ m = 7) with e | e | e | e | e | e | e | e <;> subst e
    · obtain ⟨y, hy, y1⟩ : ∃ y : Nat, a3 % 6 = y ∧ y < 6 := ⟨(a3 % 6).toNat, by omega, by omega⟩
      have HY := Lib.hid hy
      obtain ⟨_, _, c0, c1, c2, f0, f1', f2, _⟩ := HT2.out.spotAt f f1 ⟨0, 0, 0⟩
      have s1 : IntKind.i64.wrap ((y : Int) - 2) = y - 2 := IntWalk.i64_in _ (by omega)
      clear hy
      go_wp2_with fail
      go_region_held3 (fun w' => w'.cell? ⟨w1.heap.size, 0, none⟩ = some (.int .i64 k) ∧ w'.cell? ⟨w1.heap.size, 1, none⟩ = some (.slice A1 nw ca) ∧ w'.cell? ⟨w1.heap.size, 2, none⟩ = some (.slice (some ⟨g, 0, none⟩) n c1'))
        (first | exact ⟨q0, q1, q2⟩ | exact ⟨(BX.out.far hne _).cell 0, (BX.out.far hne _).cell 1, (BX.out.far hne _).cell 2⟩)
        (first | (go_at_call 11; refine (mod_any a3 6 (by omega) (by omega) l3 u3 _).mono ?_; rintro e w' ⟨rfl, rfl⟩; rw [HY.out]))
      go_wp2
      go_meet
      exact ⟨_, _, _, _, (HS.out.poke hgw f f1 0 (by omega) _).drew⟩
    · obtain ⟨y, hy, y1⟩ : ∃ y : Nat, a3 % 4 = y ∧ y < 4 := ⟨(a3 % 4).toNat, by omega, by omega⟩
      have HY := Lib.hid hy
      obtain ⟨_, _, c0, c1, c2, f0, f1', f2, _⟩ := HT2.out.spotAt f f1 ⟨0, 0, 0⟩
      have zg : g < V.heap.size := by omega
      obtain ⟨z, hz3⟩ : ∃ z, [Value.int .i64 1, .int .i64 (-1), .int .i64 4294967296, .int .i64 17179869184][y]'(by simp; omega) = .int .i64 z := by
        rcases (by omega : y = 0 ∨ y = 1 ∨ y = 2 ∨ y = 3) with e | e | e | e <;> subst e
        · exact ⟨_, rfl⟩
        · exact ⟨_, rfl⟩
        · exact ⟨_, rfl⟩
        · exact ⟨_, rfl⟩
      have y4 : 0 ≤ (y : Int) ∧ (y : Int) < 4 := by omega
      clear hy
      go_wp2_with fail
      go_region_with (go_at_call 11; refine (mod_any a3 4 (by omega) (by omega) l3 u3 _).mono ?_; rintro e w' ⟨rfl, rfl⟩; rw [HY.out])
      all_goals (go_wp2; go_meet; exact ⟨_, _, _, _, ((HS.out.poke hgw f f1 1 (by omega) _).next ((Below.refl _ _).alloc (Nat.le_refl _) _)).drew⟩)
    · obtain ⟨y, hy, y1⟩ : ∃ y : Nat, a3 % ((n : Int) + 2) = y ∧ y < n + 2 := ⟨(a3 % ((n : Int) + 2)).toNat, by rw [Int.toNat_of_nonneg (Int.emod_nonneg _ (by omega))], by have := Int.emod_lt_of_pos a3 (show 0 < (n : Int) + 2 by omega); have := Int.emod_nonneg a3 (show (n : Int) + 2 ≠ 0 by omega); omega⟩
      have HY := Lib.hid hy
      obtain ⟨_, _, c0, c1, c2, f0, f1', f2, _⟩ := HT2.out.spotAt f f1 ⟨0, 0, 0⟩
      have s1 : IntKind.i64.wrap ((y : Int) - 1) = y - 1 := IntWalk.i64_in _ (by omega)
      have s2 : IntKind.i64.wrap ((n : Int) + 2) = n + 2 := IntWalk.i64_in _ (by omega)
      clear hy
      go_wp2_with fail
      go_region_held3 (fun w' => w'.cell? ⟨w1.heap.size, 0, none⟩ = some (.int .i64 k) ∧ w'.cell? ⟨w1.heap.size, 1, none⟩ = some (.slice A1 nw ca) ∧ w'.cell? ⟨w1.heap.size, 2, none⟩ = some (.slice (some ⟨g, 0, none⟩) n c1'))
        (first | exact ⟨q0, q1, q2⟩ | exact ⟨(BX.out.far hne _).cell 0, (BX.out.far hne _).cell 1, (BX.out.far hne _).cell 2⟩)
        (first | (go_at_call 11; refine (mod_any a3 _ (by omega) (by omega) l3 u3 _).mono ?_; rintro e w' ⟨rfl, rfl⟩; rw [HY.out]))
      go_wp2
      go_meet
      exact ⟨_, _, _, _, (HS.out.poke hgw f f1 2 (by omega) _).drew⟩
    · obtain ⟨g3, rfl, _, zg3, d0, d1, _⟩ := HO2.out.spot x x1 0
      have hne3 : w1.heap.size ≠ g3 := by
        obtain ⟨b, o, e, hb, _⟩ := HA1.out.at_ x x1
        injection e with e
        injection e with e
        omega
      go_wp2_with fail
      go_region_held3 (fun w' => w'.cell? ⟨w1.heap.size, 0, none⟩ = some (.int .i64 k) ∧ w'.cell? ⟨w1.heap.size, 1, none⟩ = some (.slice (some ⟨g3, 0, none⟩) nw ca) ∧ w'.cell? ⟨w1.heap.size, 2, none⟩ = some (.slice (some ⟨g, 0, none⟩) n c1'))
        (first | exact ⟨q0, q1, q2⟩ | exact ⟨(BX.out.far hne3 _).cell 0, (BX.out.far hne3 _).cell 1, (BX.out.far hne3 _).cell 2⟩)
        (first | (go_at_call 11; refine (mod_any a2 _ (by omega) (by omega) l2 u2 _).mono ?_; rintro e w' ⟨rfl, rfl⟩; rw [HX.out]))
      go_wp2
      go_meet
      exact ⟨_, _, _, _, (HS.out.word hne3 x x1 _ u64_wrap).drew⟩
    · go_wp2_with (at_builtin; refine wpList_append_own _ rfl _ _ 22 rfl (w.heap.size + 2) 28 i0 (.int .u64 0) 1 8 Try.underlying22 hi0 hz0 hz1 hz2 rfl (by decide) _ nw (wordsOf nw wd) rfl ((HO2.out.below ((Below.refl _ _).alloc (Nat.le_refl _) _)).ownsRow) ⟨V.heap.size, 0, none⟩ 1 1 [.int .u64 0] rfl rfl ?c1 (by simp [Value.oneCell']) (by simp only [maxLen]; omega) (by omega) ?c5 ?_)
      case c1 => exact one_news (by go_simp)
      case c5 => simp; omega
      intro v' w2 hown' hgrow _
      obtain ⟨A2, c2, rfl, ho2⟩ := own_of_row (f := fun j => if j < nw then wd j else 0) hown' (fun j hj => by
        rcases Nat.lt_or_ge j nw with h | h
        · rw [List.getElem?_append_left (by rw [wordsOf_length]; exact h), wordsOf_get _ _ _ h, if_pos h]
        · obtain rfl : j = nw := by omega
          rw [List.getElem?_append_right (by rw [wordsOf_length]; exact h), wordsOf_length, if_neg (by omega)]
          simp)
      obtain ⟨U2, hU2⟩ : ∃ U2, U2 = V.alloc (.cells #[.int .u64 0] 28) := ⟨_, rfl⟩
      rw [← hU2] at hgrow
      have hbu : Below V.heap.size V U2 := by rw [hU2]; exact (Below.refl _ _).alloc (Nat.le_refl _) _
      have hsu : V.heap.size ≤ U2.heap.size := hbu.size
      have HN := Lib.hid ((HS.out.next hbu).app (by omega) (by omega) hgrow ho2 (fun hP j hj => by
        show 0 ≤ (if j < nw then wd j else 0) ∧ (if j < nw then wd j else 0) < 18446744073709551616
        by_cases e : j < nw
        · rw [if_pos e]; exact hP j e
        · rw [if_neg e]; decide))
      have b2 := ((BX.out.next hbu).rowT hgrow (row_type ((HO2.out.below hbu).ownsRow)) (by decide))
      have t1 := b2.cell 1
      have t2 := b2.frozen 1
      have t3 : w1.heap.size < w2.heap.size := b2.lt
      simp at t1
      clear hU2 hbu hsu hgrow ho2 hown' b2
      go_wp2_with fail
      go_meet
      exact ⟨_, _, _, _, HN.out⟩
    · obtain ⟨y, hy, y1⟩ : ∃ y : Nat, a3 % 3 = y ∧ y < 3 := ⟨(a3 % 3).toNat, by omega, by omega⟩
      have HY := Lib.hid hy
      have s1 : IntKind.i64.wrap ((y : Int) - 1) = y - 1 := IntWalk.i64_in _ (by omega)
      clear hy
      go_wp2_with fail
      go_region_with (go_at_call 11; refine (mod_any a3 3 (by omega) (by omega) l3 u3 _).mono ?_; rintro e w' ⟨rfl, rfl⟩; rw [HY.out])
      all_goals (go_wp2; go_meet; exact ⟨_, _, _, _, (HS.out.shift (by omega) _).drew⟩)
    · obtain ⟨hg2, _, c0, c1, c2, f0, f1', f2, hnew, _⟩ := HT2.out.spotAt f f1 ⟨-1, -1, -1⟩
      have HN := Lib.hid hnew
      clear hnew
      go_wp2_with fail
      go_meet
      exact ⟨_, _, _, _, HS.out.entry hgw hg2 HN.out⟩
    · go_wp2_with fail
      go_meet
      exact ⟨_, _, _, _, HS.out⟩
  case rest =>
    obtain ⟨k', A2, nw', c'', hs⟩ := hcut
    have HW := Lib.hid hs
    have z3 : w1.heap.size < wc.heap.size := hs.bx.lt
    clear hs q0 q1 q2 e0 e1 e2
    have q0 := HW.out.bx.cell 0
    have q1 := HW.out.bx.cell 1
    have q2 := HW.out.bx.cell 2
    have r0 := HW.out.br.cell 0
    have r1 := HW.out.br.cell 1
    have r2 := HW.out.br.cell 2
    have g0 := HW.out.br.frozen 0
    have g1 := HW.out.br.frozen 1
    have g2 := HW.out.br.frozen 2
    simp at q0 q1 q2 r0 r1 r2
    go_wp2_with fail
    exact bodyPost_ret (v := .agg #[.int .i64 k', .slice A2 nw' c'', .slice (some ⟨g, 0, none⟩) n c1']) (by simp [results, Try.results14, go_sem, r0, r1, r2]) rfl (HW.out.end _ _ _)
theorem spoilt_any (k : Int) (A A' : Option Addr) (nw c n c' : Nat) (wd : Nat → Int) (F : Nat → Fr) (a1 a2 a3 : Int) (w : World) (hA : Arr w w.heap.size A nw c wd) (hT : Tab w w.heap.size A' n c' F) (hn : n ≤ 4096) (hn0 : 0 < n) (hw : nw ≤ 1000000) (hw0 : 0 < nw)
    (l1 : -9223372036854775808 ≤ a1) (u1 : a1 ≤ 9223372036854775807) (l2 : -9223372036854775808 ≤ a2) (u2 : a2 ≤ 9223372036854775807) (l3 : -9223372036854775808 ≤ a3) (u3 : a3 ≤ 9223372036854775807) :
    Calls Try.prog 14 #[.agg #[.int .i64 k, .slice A nw c, .slice A' n c'], .int .i64 a1, .int .i64 a2, .int .i64 a3] w fun e w' => ∃ (k : Int) (nw' c g c' : Nat) (A : Option Addr) (wd : Nat → Int) (F : Nat → Fr), e = .returned (.agg #[.int .i64 k, .slice A nw' c, .slice (some ⟨g, 0, none⟩) n c']) ∧ nw ≤ nw' ∧ nw' ≤ nw + 1 ∧ Own w' w.heap.size A nw' c wd ∧ OwnT w' w.heap.size (some ⟨g, 0, none⟩) n c' F ∧ Below w.heap.size w w' := by
  refine (spoilt8_any k A A' nw c n c' wd F a1 a2 a3 w hA hT hn hn0 hw hw0 l1 u1 l2 u2 l3 u3).mono ?_
  rintro e w' ⟨k1, nw1, c1, g1, c1', A1, wd1, F1, h1, h2, h3, h4, h5, h6, _⟩
  exact ⟨k1, nw1, c1, g1, c1', A1, wd1, F1, h1, h2, h3, h4, h5, h6⟩
end Go.Proofs.Ytjkbjbikofindaa
