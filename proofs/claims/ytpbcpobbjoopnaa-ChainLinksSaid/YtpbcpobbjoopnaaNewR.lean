/-
  Contracts: new spaces of the reference.
-/
import Derived.Test.YtpbcpobbjoopnaaNew
import Derived.RegionTactic
import Derived.ChangeAlike
import Derived.Deep.RegionHeld3
import Derived.Deep.DeepCutAuto
namespace Go.Proofs.Ytpbcpobbjoopnaa
open Go.RowKit
set_option linter.unusedVariables false

/-- What the region that makes a space leaves: its box p, its words x, its table y, all new. -/
def MadeAt (w W : World) (k n : Nat) (F : Nat → Fr) (p x y : Nat) (wx : World) : Prop :=
  W.heap.size ≤ p ∧ p ≠ x ∧ p ≠ y ∧ x ≠ y ∧ Blk wx p 25 #[.int .i64 k, .slice (some ⟨x, 0, none⟩) (n * 2 ^ k) (n * 2 ^ k), .slice (some ⟨y, 0, none⟩) n n] ∧
    Own wx W.heap.size (some ⟨x, 0, none⟩) (n * 2 ^ k) (n * 2 ^ k) (fun _ => 0) ∧ OwnT wx W.heap.size (some ⟨y, 0, none⟩) n n F ∧ Below W.heap.size W wx

def MadeSome (w W : World) (k n : Nat) (v : Value) (wx : World) : Prop := ∃ p x y, v = .pointer (some ⟨p, 0, none⟩) ∧ MadeAt w W k n (fun _ => frZero) p x y wx

/-- What holds while the reference writes the entries of a new table. -/
def NewRAt (w W : World) (k n p x y : Nat) (i : Value) (wr : World) : Prop := ∃ t : Nat, t ≤ n ∧ i = .int .i64 t ∧ MadeAt w W k n (fun j => if j < t then frFree else frZero) p x y wr

theorem heap3_0 (W : World) (a b c : Obj) : (((W.alloc a).alloc b).alloc c).drew.heap[W.heap.size]? = some a := by
  show (((W.alloc a).alloc b).alloc c).heap[W.heap.size]? = some a
  rw [Below.heap_alloc _ _ _ (by simp; omega), Below.heap_alloc _ _ _ (by simp), heap_alloc_new]
theorem heap3_1 (W : World) (a b c : Obj) : (((W.alloc a).alloc b).alloc c).drew.heap[W.heap.size + 1]? = some b := by
  show (((W.alloc a).alloc b).alloc c).heap[W.heap.size + 1]? = some b
  have h : ((W.alloc a).alloc b).heap[(W.alloc a).heap.size]? = some b := heap_alloc_new (W.alloc a) b
  have e : (W.alloc a).heap.size = W.heap.size + 1 := by simp
  rw [Below.heap_alloc _ _ _ (by simp), ← e]
  exact h
theorem heap3_2 (W : World) (a b c : Obj) : (((W.alloc a).alloc b).alloc c).drew.heap[W.heap.size + 1 + 1]? = some c := by
  show (((W.alloc a).alloc b).alloc c).heap[W.heap.size + 1 + 1]? = some c
  have h : (((W.alloc a).alloc b).alloc c).heap[((W.alloc a).alloc b).heap.size]? = some c := heap_alloc_new _ _
  have e : ((W.alloc a).alloc b).heap.size = W.heap.size + 1 + 1 := by simp
  rw [← e]
  exact h
theorem below3 (W : World) (a b c : Obj) : Below W.heap.size W (((W.alloc a).alloc b).alloc c).drew :=
  ((((Below.refl _ _).alloc (Nat.le_refl _) _).alloc (by simp) _).alloc (by simp; omega) _).drew

theorem made_close {w W wx : World} {k n p x y : Nat} (hn : n ≤ 64) (hk : k ≤ 8) (hp : wx.heap[p]? = some (.cells #[.int .i64 k, .slice (some ⟨x, 0, none⟩) (n * 2 ^ k) (n * 2 ^ k), .slice (some ⟨y, 0, none⟩) n n] 25 (0, 0)))
    (hx : wx.heap[x]? = some (.cells (madeCells #[.int .u64 0] (n * 2 ^ k)) 67 (0, 0))) (hy : wx.heap[y]? = some (.cells (madeCells #[.int .i64 0, .int .i64 0, .int .i64 0] (n * 3)) 64 (0, 0)))
    (h1 : W.heap.size ≤ p) (h2 : W.heap.size ≤ x) (h3 : W.heap.size ≤ y) (h4 : p ≠ x) (h5 : p ≠ y) (h6 : x ≠ y) (hb : Below W.heap.size W wx) : MadeSome w W k n (.pointer (some ⟨p, 0, none⟩)) wx := by
  have hl := prod_le hn hk
  refine ⟨p, x, y, rfl, h1, h4, h5, h6, hp, ⟨Nat.le_refl _, by simp only [maxLen]; omega, .inr ⟨x, _, rfl, h2, hx, by simp [size_madeCells], fun j hj => ?_⟩⟩, ⟨Nat.le_refl _, by simp only [maxLen]; omega, .inr ⟨y, _, rfl, h3, hy, by simp [size_madeCells], fun j hj => ?_⟩⟩, hb⟩
  · simp [madeCells, hj, Nat.mod_one]
  · have e0 : j * 3 < n * 3 := by omega
    have e1 : j * 3 + 1 < n * 3 := by omega
    have e2 : j * 3 + 2 < n * 3 := by omega
    have m0 : j * 3 % 3 = 0 := by omega
    have m1 : (j * 3 + 1) % 3 = 1 := by omega
    have m2 : (j * 3 + 2) % 3 = 2 := by omega
    simp [madeCells, e0, e1, e2, m0, m1, m2, frZero]

set_option maxRecDepth 100000 in
set_option maxHeartbeats 1000000 in
theorem refNew_yes (k n : Nat) (w : World) (h1 : 3 ≤ k) (h2 : k ≤ 8) (h3 : 2 ≤ n) (h4 : n ≤ 64) :
    Calls Try.prog 25 #[.int .i64 k, .int .i64 n] w (NewSp k n w) := by
  have hs : shB k = true := by simp [shB]; omega
  obtain ⟨i0, hi0, hz0, hz1, hz2⟩ := info_parts frame_info
  have hmk := fun W => run_make_rowN (P := Try.prog) 23 64 i0 _ Try.underlying23 hi0 hz0 .i64 .i64 n n (Nat.le_refl _) (by rw [hz2]; omega) (by omega) W
  rw [hz1] at hmk
  have hmw := fun W => make_words (n := n) (k := k) h4 h2 W
  obtain ⟨q0, q1⟩ := prod_bd h4 h2
  have H := Lib.hid hs
  clear hs
  obtain ⟨W, hW⟩ : ∃ W, W = w.alloc (.cells #[.int .i64 0, .slice none 0 0, .slice none 0 0] 25) := ⟨_, rfl⟩
  have hz : W.heap.size = w.heap.size + 1 := by rw [hW]; simp
  have HW := Lib.hid hW
  have HZ := Lib.hid hz
  clear hW hz
  go_enter Try.func25, Try.ntmps25
  go_upto_region 3 with (first
    | (go_at_call 44; refine (refShift_any _ _).mono ?_; rintro e w' ⟨rfl, rfl⟩; rw [H.out]))
  rw [← HW.out]
  go_cut [6] (fun s wx => MadeSome w W k n s wx)
  case first =>
    go_region
    all_goals
      go_wp2
      go_meet
      exact made_close h4 h2 (by first | exact heap3_0 _ _ _ _ | exact heap3_1 _ _ _ _ | exact heap3_2 _ _ _ _) (by first | exact heap3_0 _ _ _ _ | exact heap3_1 _ _ _ _ | exact heap3_2 _ _ _ _) (by first | exact heap3_0 _ _ _ _ | exact heap3_1 _ _ _ _ | exact heap3_2 _ _ _ _) (by omega) (by omega) (by omega) (by omega) (by omega) (by omega) (below3 _ _ _ _)
  case rest =>
    obtain ⟨p, x, y, rfl, hp, h4', h5, h6, hbox, hx, hy, hb⟩ := hcut
    have z0 : w.heap.size < W.heap.size := by have := HZ.out; omega
    have g1 : y < wc.heap.size := by obtain ⟨_, _, h | ⟨g, cur, hA, _, hg, _⟩⟩ := hy; (· cases h.1); injection hA with hA; injection hA with hA; subst hA; exact blk_lt hg
    have p0 := hbox.cell 0
    have p1 := hbox.cell 1
    have p2 := hbox.cell 2
    simp at p0 p1 p2
    have st : MadeAt w W k n (fun j => if j < 0 then frFree else frZero) p x y wc := ⟨hp, h4', h5, h6, hbox, hx, hy.congr (fun j _ => by simp), hb⟩
    have ST := Lib.hid st
    clear st hx hy hb hbox
    go_wp2
    go_loopw [7, 32] (fun _ i wr => NewRAt w W k n p x y i wr) (fun _ i _ => n - (intOf i).toNat)
    case atStart => exact ⟨0, by omega, rfl, ST.out⟩
    case round =>
      obtain ⟨t, ht, rfl, hp, h4', h5, h6, hbox, hx, hy, hb⟩ := hrel
      have p0 := hbox.cell 0
      have p1 := hbox.cell 1
      have p2 := hbox.cell 2
      simp at p0 p1 p2
      have HX := Lib.hid hx
      have HP := Lib.hid hbox
      have HB := Lib.hid hb
      by_cases hlt : t < n
      · obtain ⟨g1, g2, c0, c1, c2, f0, f1, f2, hnew, _⟩ := hy.spotAt t hlt frFree
        have hnew2 := hnew.congr (F' := fun j => if j < t + 1 then frFree else frZero) (fun j hj => by
          by_cases e : j = t
          · subst e; simp
          · by_cases e2 : j < t
            · rw [if_neg e, if_pos e2, if_pos (by omega)]
            · rw [if_neg e, if_neg e2, if_neg (by omega)])
        have HN := Lib.hid hnew2
        have hlt2 : (t : Int) < n := by omega
        clear hnew hnew2 hx hbox hb hy
        go_wp2
        go_roundw
        case rel => exact ⟨t + 1, by omega, by go_num, hp, h4', h5, h6, HP.out.far3 h5 _ _ _, HX.out.apart3 h6 _ _ _, HN.out, below_set3 HB.out g1 _ _ _⟩
        case measure => simp [intOf]; omega
      · obtain rfl : t = n := by omega
        have HY := Lib.hid (hy.congr (F' := fun _ => frFree) (fun j hj => if_pos hj))
        obtain ⟨z2, c0, c1, c2, f0, f1, f2⟩ := box3 (w := w) (wr := wr) (v0 := .int .i64 0) (v1 := .slice none 0 0) (v2 := .slice none 0 0) (t := 25) (B := W.heap.size) (by rw [← HW.out]; exact hb) z0
        clear hx hbox hb hy hlt ht
        go_wp2
        have hbw : Below w.heap.size w wr := by
          have h1 := HB.out
          rw [HW.out] at h1
          exact below_box h1
        refine bodyPost_ret (v := .tuple #[.agg #[.int .i64 k, .slice (some ⟨x, 0, none⟩) (t * 2 ^ k) (t * 2 ^ k), .slice (some ⟨y, 0, none⟩) t t], .int .i64 0]) (by simp [results, Try.results25, go_sem, c0, c1, c2]) rfl ⟨_, _, rfl, ?_, ?_, ?_⟩
        · exact (HX.out.put3 z0 _ _ _).lower (Nat.le_of_lt z0)
        · exact (HY.out.put3 z0 _ _ _).lower (Nat.le_of_lt z0)
        · exact below_put3 hbw (Nat.le_refl _) _ _ _

theorem refNew_no (s n : Int) (w : World) (h : shB s = false ∨ nfB n = false) :
    Calls Try.prog 25 #[.int .i64 s, .int .i64 n] w fun e w' => e = .returned (.tuple #[.agg #[.int .i64 0, .slice none 0 0, .slice none 0 0], .int .i64 1]) ∧ Below w.heap.size w w' := by
  rcases hs : shB s with _ | _
  · have H := Lib.hid hs
    clear hs h
    go_enter Try.func25, Try.ntmps25
    go_wp2_with (go_at_call 44; refine (refShift_any _ _).mono ?_; rintro e w' ⟨rfl, rfl⟩; rw [H.out])
    exact bodyPost_ret (v := .tuple #[.agg #[.int .i64 0, .slice none 0 0, .slice none 0 0], .int .i64 1]) (by simp [results, Try.results25, go_sem]) rfl ⟨rfl, (Below.refl _ _).alloc (Nat.le_refl _) _⟩
  · have hf : nfB n = false := by
      rcases h with h | h
      · rw [hs] at h; cases h
      · exact h
    have hf' : ¬ (2 ≤ n ∧ n ≤ 64) := by
      intro h
      have : nfB n = true := by simp [nfB]; omega
      rw [hf] at this; cases this
    have H := Lib.hid hs
    clear hs hf h
    by_cases hn : n < 2
    · go_enter Try.func25, Try.ntmps25
      go_wp2_with (go_at_call 44; refine (refShift_any _ _).mono ?_; rintro e w' ⟨rfl, rfl⟩; rw [H.out])
      exact bodyPost_ret (v := .tuple #[.agg #[.int .i64 0, .slice none 0 0, .slice none 0 0], .int .i64 1]) (by simp [results, Try.results25, go_sem]) rfl ⟨rfl, (Below.refl _ _).alloc (Nat.le_refl _) _⟩
    · have hn2 : 64 < n := by omega
      clear hf'
      go_enter Try.func25, Try.ntmps25
      go_wp2_with (go_at_call 44; refine (refShift_any _ _).mono ?_; rintro e w' ⟨rfl, rfl⟩; rw [H.out])
      exact bodyPost_ret (v := .tuple #[.agg #[.int .i64 0, .slice none 0 0, .slice none 0 0], .int .i64 1]) (by simp [results, Try.results25, go_sem]) rfl ⟨rfl, (Below.refl _ _).alloc (Nat.le_refl _) _⟩
end Go.Proofs.Ytpbcpobbjoopnaa
