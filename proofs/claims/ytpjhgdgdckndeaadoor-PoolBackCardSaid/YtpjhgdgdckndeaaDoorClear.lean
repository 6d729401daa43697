/-
  Contract of the reference of layer 4: Clear.
-/
import Derived.Test.YtpjhgdgdckndeaaDoorRefp
import Derived.Deep.DeepCutAuto
namespace Go.Proofs.YtpjhgdgdckndeaaDoor
open Go.RowKit
set_option maxRecDepth 100000
set_option linter.unusedVariables false

/-- What turned are the blocks x and g, and what is new. -/
structure Turn2 (x g : Nat) (w w' : World) : Prop where
  os : w'.os = w.os
  tape : w'.tape = w.tape
  output : w'.output = w.output
  size : w.heap.size ≤ w'.heap.size
  block : ∀ b, b < w.heap.size → b ≠ x → b ≠ g → w'.heap[b]? = w.heap[b]?
theorem Turn2.of_below {x g : Nat} {w w' : World} (h : Below w.heap.size w w') : Turn2 x g w w' := ⟨h.os, h.tape, h.output, h.size, fun b hb _ _ => h.block b hb⟩
theorem Turn2.alloc {x g : Nat} {w w' : World} (h : Turn2 x g w w') (o : Obj) : Turn2 x g w (w'.alloc o) :=
  ⟨h.os, h.tape, h.output, by have := h.size; simp; omega, fun b hb h1 h2 => (Below.heap_alloc w' o b (by have := h.size; omega)).trans (h.block b hb h1 h2)⟩
theorem Turn2.setx {x g : Nat} {w w' : World} (h : Turn2 x g w w') (i : Nat) (u : Value) : Turn2 x g w (w'.setCell ⟨x, i, none⟩ u) :=
  ⟨h.os, h.tape, h.output, by simpa using h.size, fun b hb h1 h2 => (Below.heap_setCell w' ⟨x, i, none⟩ u b h1).trans (h.block b hb h1 h2)⟩
theorem Turn2.setg {x g : Nat} {w w' : World} (h : Turn2 x g w w') (i : Nat) (u : Value) : Turn2 x g w (w'.setCell ⟨g, i, none⟩ u) :=
  ⟨h.os, h.tape, h.output, by simpa using h.size, fun b hb h1 h2 => (Below.heap_setCell w' ⟨g, i, none⟩ u b h2).trans (h.block b hb h1 h2)⟩
theorem Turn2.setg3 {x g : Nat} {w w' : World} (h : Turn2 x g w w') (i j k : Nat) (u v y : Value) : Turn2 x g w (((w'.setCell ⟨g, i, none⟩ u).setCell ⟨g, j, none⟩ v).setCell ⟨g, k, none⟩ y) :=
  ((h.setg i u).setg j v).setg k y
theorem Blk.turn2 {x g b : Nat} {w w' : World} {t : TypeId} {cs : Array Value} (h : Blk w b t cs) (hg : Turn2 x g w w') (h1 : b ≠ x) (h2 : b ≠ g) : Blk w' b t cs := (hg.block b h.lt h1 h2).trans h
theorem Turn2.below {x g B : Nat} {w w' : World} (h : Turn2 x g w w') (hx : B ≤ x) (hg : B ≤ g) (hB : B ≤ w.heap.size) : Below B w w' :=
  ⟨h.os, h.tape, h.output, h.size, fun b hb => h.block b (by omega) (by omega) (by omega)⟩

theorem giveF_skip {F : Nat → Fr} {o : Int} {t : Nat} (h : owB F o t = false) (j : Nat) : giveF F o t j = giveF F o (t + 1) j := by
  have h' := of_decide_eq_false h
  unfold giveF
  by_cases e : j < t ∧ (F j).ow = o
  · rw [if_pos e, if_pos ⟨by omega, e.2⟩]
  · rw [if_neg e, if_neg (fun x => e ⟨by rcases (show j < t ∨ j = t by omega) with q | rfl; exact q; exact absurd x.2 h', x.2⟩)]
theorem giveW_skip {wd : Nat → Int} {F : Nat → Fr} {o : Int} {k t : Nat} (h : owB F o t = false) (a : Nat) : giveW wd F o k t a = giveW wd F o k (t + 1) a := by
  have h' := of_decide_eq_false h
  unfold giveW
  by_cases e : a / 2 ^ k < t ∧ (F (a / 2 ^ k)).ow = o
  · rw [if_pos e, if_pos ⟨by omega, e.2⟩]
  · rw [if_neg e, if_neg (fun x => e ⟨by rcases (show a / 2 ^ k < t ∨ a / 2 ^ k = t by omega) with q | q; exact q; exact absurd (q ▸ x.2) h', x.2⟩)]
def ClearAt (k : Nat) (nw n : Nat) (wd : Nat → Int) (F : Nat → Fr) (o : Int) (w : World) (base g x c1 c2 : Nat) (vn vi : Value) (wr : World) : Prop :=
  ∃ t : Nat, t ≤ n ∧ vi = .int .i64 t ∧ vn = .int .i64 (cntP (owB F o) t : Nat) ∧ Own wr base (some ⟨x, 0, none⟩) nw c1 (giveW wd F o k t) ∧ OwnT wr base (some ⟨g, 0, none⟩) n c2 (giveF F o t) ∧
    Blk wr w.heap.size 26 #[.int .i64 k, .slice (some ⟨x, 0, none⟩) nw c1, .slice (some ⟨g, 0, none⟩) n c2] ∧ Turn2 x g w wr

/-- At the inner loop's head: q words of frame t are cleared. -/
def ClearIn (k : Nat) (nw n : Nat) (wd : Nat → Int) (F : Nat → Fr) (o : Int) (w : World) (base g x c1 c2 t lo m : Nat) (va : Value) (wr : World) : Prop :=
  ∃ q : Nat, q ≤ m ∧ va = .int .i64 ((lo + q : Nat) : Int) ∧ Own wr base (some ⟨x, 0, none⟩) nw c1 (fun a => if lo ≤ a ∧ a < lo + q then 0 else giveW wd F o k t a) ∧ OwnT wr base (some ⟨g, 0, none⟩) n c2 (giveF F o (t + 1)) ∧
    Blk wr w.heap.size 26 #[.int .i64 k, .slice (some ⟨x, 0, none⟩) nw c1, .slice (some ⟨g, 0, none⟩) n c2] ∧ Turn2 x g w wr
theorem Own.spotAt {w : World} {base x n c : Nat} {f : Nat → Int} (h : Own w base (some ⟨x, 0, none⟩) n c f) (i : Nat) (hi : i < n) (v : Int) :
    base ≤ x ∧ x < w.heap.size ∧ w.cell? ⟨x, i, none⟩ = some (.int .u64 (f i)) ∧ w.frozen? ⟨x, i, none⟩ = false ∧
      Own (w.setCell ⟨x, i, none⟩ (.int .u64 v)) base (some ⟨x, 0, none⟩) n c (fun j => if j = i then v else f j) := by
  obtain ⟨g, hA, h'⟩ := h.spot i hi v
  injection hA with hA
  injection hA with hA
  subst hA
  exact h'

theorem clear_one {lo q L : Nat} {f : Nat → Int} (hL : L = lo + q) (a : Nat) : (if a = L then 0 else if lo ≤ a ∧ a < lo + q then 0 else f a) = if lo ≤ a ∧ a < lo + (q + 1) then 0 else f a := by
  subst hL
  by_cases e : a = lo + q
  · rw [if_pos e, if_pos (by omega)]
  · rw [if_neg e]
    by_cases e2 : lo ≤ a ∧ a < lo + q
    · rw [if_pos e2, if_pos (by omega)]
    · rw [if_neg e2, if_neg (by omega)]
theorem clear_cnt {p : Nat → Bool} {t : Nat} (h : p t = true) : cntP p (t + 1) = cntP p t + 1 := by simp only [cntP]; rw [h]; rfl

set_option maxHeartbeats 4000000 in
theorem clear_any (k x g nw c1 n c2 base : Nat) (wd : Nat → Int) (F : Nat → Fr) (o : Int) (w : World) (hA : Own w base (some ⟨x, 0, none⟩) nw c1 wd) (hT : OwnT w base (some ⟨g, 0, none⟩) n c2 F) (hk : k ≤ 8) (hn : n ≤ 64) (hn0 : 0 < n) (hw : nw = n * 2 ^ k) :
    Calls Tryd.prog 39 #[.agg #[.int .i64 k, .slice (some ⟨x, 0, none⟩) nw c1, .slice (some ⟨g, 0, none⟩) n c2], .int .i64 o] w
      fun e w' => e = .returned (.int .i64 (cntP (owB F o) n : Nat)) ∧ Own w' base (some ⟨x, 0, none⟩) nw c1 (giveW wd F o k n) ∧ OwnT w' base (some ⟨g, 0, none⟩) n c2 (giveF F o n) ∧ Turn2 x g w w' := by
  have hxg := own_apart hA hT
  have hxw : x < w.heap.size := by obtain ⟨_, hA', _, h, _⟩ := hA.spot 0 (by rw [hw]; exact Nat.mul_pos hn0 (Nat.pow_pos (by decide))) 0; cases hA'; exact h
  have hgw : g < w.heap.size := (hT.spotAt 0 hn0 frFree).2.1
  obtain ⟨U, hU⟩ : ∃ U, U = w.alloc (.cells #[.int .i64 k, .slice (some ⟨x, 0, none⟩) nw c1, .slice (some ⟨g, 0, none⟩) n c2] 26) := ⟨_, rfl⟩
  have hbu : Below w.heap.size w U := by rw [hU]; exact (Below.refl _ _).alloc (Nat.le_refl _) _
  have BU : Blk U w.heap.size 26 #[.int .i64 k, .slice (some ⟨x, 0, none⟩) nw c1, .slice (some ⟨g, 0, none⟩) n c2] := by rw [hU]; exact Blk.new _ _ _
  have ST : Hid (ClearAt k nw n wd F o w base g x c1 c2 (.int .i64 0) (.int .i64 0) U) :=
    Lib.hid ⟨0, by omega, rfl, rfl, (hA.below hbu).congr (fun j _ => by simp [giveW]), (hT.below hbu).congr (fun j _ => by simp [giveF]), BU, Turn2.of_below hbu⟩
  have p2 := BU.cell 2
  simp at p2
  have HU := Lib.hid hU
  have HNW := Lib.hid hw
  have pw0 := pw_pos k
  have pw1 := pw_bd hk
  clear hU hA hT hbu BU hw
  go_enter Tryd.func39, Tryd.ntmps39
  go_wp2
  rw [← HU.out]
  go_loopw [5, 6, 7, 8, 12] (fun vn _ _ _ vi wr => ClearAt k nw n wd F o w base g x c1 c2 vn vi wr) (fun _ _ _ _ i _ => n - (intOf i).toNat)
  case atStart => exact ST.out
  case round =>
    obtain ⟨t, ht, rfl, rfl, ho, hT, hX, hG⟩ := hrel
    have x0 := hX.cell 0
    have x1 := hX.cell 1
    have x2 := hX.cell 2
    have xz := hX.lt
    simp at x0 x1 x2
    by_cases hlt : t < n
    · have hlt2 : 0 ≤ (t : Int) ∧ (t : Int) < n := by omega
      have t64 : (t : Int) < 64 := by omega
      obtain ⟨gb, gz, c0, cc1, cc2, f0, f1, f2, hnew, _⟩ := hT.spotAt t hlt frFree
      have hft : giveF F o t t = F t := by unfold giveF; rw [if_neg (by omega)]
      rw [hft] at c0 cc1 cc2
      obtain ⟨y, hy⟩ : ∃ y, y = (F t).ow := ⟨_, rfl⟩
      rw [← hy] at c0
      by_cases e1 : y = o
      · have HY := Lib.hid (show owB F o t = true from owB_yes (by rw [← hy]; exact e1))
        have hb1' : (y != o) = false := by simpa using e1
        have hcl := cntP_le (owB F o) t
        obtain ⟨q0, q1, q2⟩ := cut_bounds hk hlt hn HNW.out
        obtain ⟨lo, hlo⟩ : ∃ lo, lo = t * 2 ^ k := ⟨_, rfl⟩
        obtain ⟨m, hm⟩ : ∃ m, m = 2 ^ k := ⟨_, rfl⟩
        obtain ⟨hi, hhi⟩ : ∃ hi, hi = lo + m := ⟨_, rfl⟩
        rw [← hlo, ← hm] at q0
        rw [← hm] at q1
        have lox : (0 : Int) ≤ lo ∧ (lo : Int) + m ≤ 16384 := by omega
        have lox2 : hi = lo + m ∧ hi ≤ nw := ⟨hhi, by omega⟩
        have w1 : wrap64 ((t : Int) * 2 ^ k) = (lo : Int) := by unfold wrap64; rw [(shifts t k).1, ← hlo]; omega
        have w3 : wrap64 (((t : Int) + 1) * 2 ^ k) = (hi : Int) := by unfold wrap64; rw [(shifts t k).2, ← hlo, ← hm, ← hhi]; omega
        have W1 := Lib.hid w1
        have W3 := Lib.hid w3
        have LOX := Lib.hid lox2
        clear w1 w3 lox2
        obtain ⟨V, hV⟩ : ∃ V, V = ((wr.setCell ⟨g, t * 3, none⟩ (.int .i64 (-1))).setCell ⟨g, t * 3 + 1, none⟩ (.int .i64 (-1))).setCell ⟨g, t * 3 + 2, none⟩ (.int .i64 (-1)) := ⟨_, rfl⟩
        have hoV : Own V base (some ⟨x, 0, none⟩) nw c1 (giveW wd F o k t) := by rw [hV]; exact own_setT ho hT _ _ _
        have htV : OwnT V base (some ⟨g, 0, none⟩) n c2 (giveF F o (t + 1)) := by rw [hV]; exact hnew.congr (fun j _ => giveF_next (Nat.le_refl t) HY.out (fun q h1 h2 => absurd h1 (by omega)) j)
        have hXV : Blk V w.heap.size 26 #[.int .i64 k, .slice (some ⟨x, 0, none⟩) nw c1, .slice (some ⟨g, 0, none⟩) n c2] := by rw [hV]; exact hX.far3 (by omega) _ _ _
        have hGV : Turn2 x g w V := by rw [hV]; exact hG.setg3 _ _ _ _ _ _
        obtain ⟨Z, hZ⟩ : ∃ Z, Z = V.alloc (.cells #[.int .i64 y, .int .i64 (F t).st, .int .i64 (F t).nx] 62) := ⟨_, rfl⟩
        have hbz : Below V.heap.size V Z := by rw [hZ]; exact (Below.refl _ _).alloc (Nat.le_refl _) _
        have IN : Hid (ClearIn k nw n wd F o w base g x c1 c2 t lo m (.int .i64 lo) Z) :=
          Lib.hid ⟨0, Nat.zero_le _, rfl, (hoV.below hbz).congr (fun a _ => (if_neg (fun h => Nat.lt_irrefl _ (Nat.lt_of_le_of_lt h.1 h.2))).symm), htV.below hbz, hXV.next hbz, by rw [hZ]; exact hGV.alloc _⟩
        have HLO := Lib.hid hlo
        have HM := Lib.hid hm
        have HHI := Lib.hid hhi
        have HV := Lib.hid hV
        have HZ := Lib.hid hZ
        clear hft hy e1 hV hZ hnew ho hT hX hG hoV htV hXV hGV hbz hlo hm hhi
        go_wp2
        rw [W1.out]
        rw [← HV.out, ← HZ.out]
        go_loopw [8] (fun va wr => ClearIn k nw n wd F o w base g x c1 c2 t lo m va wr) (fun va _ => hi - (intOf va).toNat)
        case atStart => exact IN.out
        case round =>
          obtain ⟨q, hq, rfl, ho, hT, hX, hG⟩ := hrel
          have x0 := hX.cell 0
          have x1 := hX.cell 1
          have x2 := hX.cell 2
          have xz := hX.lt
          simp at x0 x1 x2
          have w3 := W3.out
          obtain ⟨L, hL⟩ : ∃ L, L = lo + q := ⟨_, rfl⟩
          have HL := Lib.hid hL
          have hcast : ((lo + q : Nat) : Int) = (L : Int) := by rw [hL]
          rw [hcast]
          have hLhi : L ≤ hi := by have := LOX.out.1; omega
          clear hcast
          by_cases hlt3 : L < hi
          · have hlt4 : (0 : Int) ≤ L ∧ (L : Int) < hi := by omega
            have hlt5 : 0 ≤ (L : Int) ∧ (L : Int) < nw := by have := LOX.out.2; omega
            have lm : (L : Int) ≤ 16384 := by omega
            obtain ⟨_, xx, d0, df, hnew⟩ := ho.spotAt L (by omega) 0
            have hbx : w.heap.size ≠ x := by omega
            have NX := Lib.hid (show ClearIn k nw n wd F o w base g x c1 c2 t lo m (.int .i64 ((L : Int) + 1)) (wr.setCell ⟨x, L, none⟩ (.int .u64 0)) from
              ⟨q + 1, by have := LOX.out.1; omega, by rw [hL]; simp; omega, hnew.congr (fun a _ => clear_one hL a), hT.apart (p := ⟨x, L, none⟩) (fun e => hxg e.symm) _, hX.far (p := ⟨x, L, none⟩) hbx _, hG.setx _ _⟩)
            clear hL hnew ho hT hX hG
            go_wp2
            exact ⟨NX.out, by simp [intOf]; omega⟩
          · have hlt4 : ¬ (L : Int) < hi := by omega
            have hqm : q = m := by have := LOX.out.1; omega
            have NX := Lib.hid (show ClearAt k nw n wd F o w base g x c1 c2 (.int .i64 ((cntP (owB F o) t : Nat) + 1)) (.int .i64 ((t : Int) + 1)) wr from
              ⟨t + 1, by omega, by go_num, by rw [clear_cnt HY.out]; go_num, ho.congr (fun a _ => by rw [hqm, HLO.out, HM.out]; exact giveW_next (Nat.le_refl t) HY.out (fun q h1 h2 => absurd h1 (by omega)) a), hT, hX, hG⟩)
            clear hL ho hT hX hG hqm
            go_wp2
            exact ⟨NX.out, by simp [intOf]; omega⟩
      · have hb1' : (y != o) = true := by simpa using e1
        have HN := Lib.hid (show cntP (owB F o) (t + 1) = cntP (owB F o) t by simp only [cntP]; rw [owB_no (by rw [← hy]; exact e1)]; rfl)
        have hf0 : owB F o t = false := owB_no (by rw [← hy]; exact e1)
        have HX : Hid (ClearAt k nw n wd F o w base g x c1 c2 (.int .i64 (cntP (owB F o) t : Nat)) (.int .i64 ((t : Int) + 1)) (wr.alloc (.cells #[.int .i64 y, .int .i64 (F t).st, .int .i64 (F t).nx] 62))) :=
          Lib.hid ⟨t + 1, by omega, by go_num, by rw [HN.out], (ho.below ((Below.refl _ _).alloc (Nat.le_refl _) _)).congr (fun a _ => giveW_skip hf0 a), (hT.below ((Below.refl _ _).alloc (Nat.le_refl _) _)).congr (fun j _ => giveF_skip hf0 j), hX.alloc _, hG.alloc _⟩
        clear hft hy e1 hnew ho hT hX hG hf0
        go_wp2
        exact ⟨HX.out, by simp [intOf]; omega⟩
    · obtain rfl : n = t := by omega
      have hlt2 : ¬ (n : Int) < n := by omega
      have HO := Lib.hid ho
      have HT := Lib.hid hT
      have HG := Lib.hid hG
      clear ho hT hG hX
      go_wp2
      go_ret
      exact ⟨rfl, HO.out, HT.out, HG.out⟩
end Go.Proofs.YtpjhgdgdckndeaaDoor
