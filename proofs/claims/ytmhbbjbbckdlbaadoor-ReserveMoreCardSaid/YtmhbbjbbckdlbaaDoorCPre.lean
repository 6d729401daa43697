/-
  The drawn region of mk.Config that takes a preset: in whatever order it goes, a valid preset lies in a new box.
-/
import Derived.Test.YtmhbbjbbckdlbaaDoorCGet
import Derived.Test.YtmhbbjbbckdlbaaDoorCVal
import Derived.Test.YtmhbbjbbckdlbaaDoorCChk
import Derived.Deep.RegionHeld3
import Derived.Deep.RegionWith
import Derived.Deep.DeepCutAuto
import Derived.RegionTactic
namespace Go.Proofs.YtmhbbjbbckdlbaaDoor
open Go.RowKit
set_option maxRecDepth 100000
set_option linter.unusedVariables false

theorem wpAnyH_mono {P : Program} {ops : Array Oper} {Q : Exit → Act → World → Prop} {md : Region.Mode} {S S' : World → Prop} (hs : ∀ w, S' w → S w) : ∀ (fuel : Nat) (listed : Array Bool) (a : Act) (w : World), wpAnyH P md ops Q S' fuel listed a w → wpAnyH P md ops Q S fuel listed a w
  | 0, _, _, _, h => h
  | fuel + 1, _, _, _, h => ⟨h.1, fun i hi => wpOp_mono (fun a' w' h' => ⟨hs _ h'.1, wpAnyH_mono hs fuel _ a' w' h'.2⟩) (h.2 i hi)⟩
theorem names_get {w : World} {g i : Nat} (h : Blk w g 9 #[.string (preN 0), .string (preN 1), .string (preN 2), .string (preN 3), .string (preN 4), .string (preN 5)]) (hi : i < 6) : w.cell? ⟨g, i, none⟩ = some (.string (preN i)) := by
  rw [h.cell i]
  rcases (by omega : i = 0 ∨ i = 1 ∨ i = 2 ∨ i = 3 ∨ i = 4 ∨ i = 5) with rfl | rfl | rfl | rfl | rfl | rfl <;> rfl
theorem ints_get {u : Int} (h0 : 0 ≤ u) (h1 : u < 100) {j : Nat} (hj : j < 6) : ∃ pc : Int, (#[.int .i64 10, .int .i64 15, .int .i64 25, .int .i64 30, .int .i64 50, .int .i64 (1 + u)] : Array Value)[j]? = some (.int .i64 pc) ∧ 1 ≤ pc ∧ pc ≤ 100 := by
  rcases (by omega : j = 0 ∨ j = 1 ∨ j = 2 ∨ j = 3 ∨ j = 4 ∨ j = 5) with rfl | rfl | rfl | rfl | rfl | rfl
  · exact ⟨10, rfl, by decide, by decide⟩
  · exact ⟨15, rfl, by decide, by decide⟩
  · exact ⟨25, rfl, by decide, by decide⟩
  · exact ⟨30, rfl, by decide, by decide⟩
  · exact ⟨50, rfl, by decide, by decide⟩
  · exact ⟨1 + u, rfl, by omega, by omega⟩
/-- A preset in a new box, at g. -/
def PreAt (P0 : World) (dk g : Nat) (W : World) : Prop := ∃ (i x : Nat) (A : Option Addr) (c : Nat), i < 6 ∧ 0 < x ∧ x ≤ 4607182418800017408 ∧ P0.heap.size ≤ g ∧ Blk W g 27 #[.string (preN i), .slice A (preR x i).length c, .int .i64 (preF i)] ∧
  RArr W (fun b => P0.heap.size ≤ b ∧ b ≠ g ∧ b < W.heap.size) A c (preR x i) ∧ DeckP W dk ∧ P0.grownBy W (some dk)
def SomePre (P0 : World) (dk : Nat) (p e : Value) (W : World) : Prop := ∃ g, p = .pointer (some ⟨g, 0, none⟩) ∧ e = .int .i64 0 ∧ PreAt P0 dk g W
theorem RArr.far {w : World} {P : Nat → Prop} {A : Option Addr} {c : Nat} {R : List Rl} (h : RArr w P A c R) {p : Addr} (hp : ¬ P p.block) (u : Value) : RArr (w.setCell p u) P A c R :=
  h.keep fun b o hb => World.cell?_setCell_other _ _ _ _ (by intro e; subst e; exact hp hb)
theorem pre_close {P0 N : World} {g dk i x lo hi c : Nat} {A : Option Addr} (i6 : i < 6) (x0 : 0 < x) (x1 : x ≤ 4607182418800017408) (hb : Blk N g 27 #[.string { data := #[] }, .slice none 0 0, .int .i64 0]) (hg : P0.grownBy N (some dk)) (hd : DeckP N dk)
    (hr : RArr N (Rng lo hi) A c (preR x i)) (h1 : P0.heap.size ≤ g) (h2 : P0.heap.size ≤ lo) (h3 : g < lo ∨ hi ≤ g) (h4 : hi ≤ N.heap.size) (h5 : dk < g) :
    PreAt P0 dk g (((N.setCell ⟨g, 0, none⟩ (.string (preN i))).setCell ⟨g, 1, none⟩ (.slice A (preR x i).length c)).setCell ⟨g, 2, none⟩ (.int .i64 (preF i))) := by
  refine ⟨i, x, A, c, i6, x0, x1, h1, ((hb.set_ 0 _).set_ 1 _).set_ 2 _, ?_, ((hd.far h5 _).far h5 _).far h5 _, turn_new (turn_new (turn_new hg ⟨g, 0, none⟩ h1 _) ⟨g, 1, none⟩ h1 _) ⟨g, 2, none⟩ h1 _⟩
  refine RArr.mono (P := Rng lo hi) (((hr.far (fun h => ?_) _).far (fun h => ?_) _).far (fun h => ?_) _) fun b hb => ⟨Nat.le_trans h2 hb.1, ?_, ?_⟩
  · have := h.1; have := h.2; simp at *; omega
  · have := h.1; have := h.2; simp at *; omega
  · have := h.1; have := h.2; simp at *; omega
  · have := hb.1; have := hb.2; omega
  · have := hb.2
    simp only [World.size_setCell]
    omega
theorem cell_store3 {N : World} {b o g : Nat} {v : Value} (h : N.cell? ⟨b, o, none⟩ = some v) (hn : b ≠ g) (x y z : Value) : (((N.setCell ⟨g, 0, none⟩ x).setCell ⟨g, 1, none⟩ y).setCell ⟨g, 2, none⟩ z).cell? ⟨b, o, none⟩ = some v := by
  rw [World.cell?_setCell_other _ _ _ _ (by intro e; injection e with e; exact hn e.symm), World.cell?_setCell_other _ _ _ _ (by intro e; injection e with e; exact hn e.symm), World.cell?_setCell_other _ _ _ _ (by intro e; injection e with e; exact hn e.symm)]
  exact h
def CfgOf (w : World) (dk : Nat) (e : Ending) (w' : World) : Prop := ∃ (s : ByteArray) (A : Option Addr) (c : Nat) (R : List Rl) (f : Int), e = .returned (.agg #[.string s, .slice A R.length c, .int .i64 f]) ∧ RArr w' (Rng w.heap.size w'.heap.size) A c R ∧ WfR R ∧ s.size ≤ 16 ∧ chk s R f = 0 ∧ w.grownBy w' (some dk)
/-- What holds while mk.Config appends its own rules: behind b of n. -/
def CfgR (w V : World) (dk cb n : Nat) (i : Value) (wr : World) : Prop := ∃ (b : Nat) (R : List Rl) (A : Option Addr) (c : Nat) (f : Int), b ≤ n ∧ i = .int .i64 b ∧ OwnR n b R ∧ (b < n → f = 0) ∧ (b = n → (lastS R = 0 ∧ 1 ≤ f ∧ f ≤ 64) ∨ (lastS R ≠ 0 ∧ f = 0)) ∧
  Blk wr cb 27 #[.string ownN, .slice A R.length c, .int .i64 f] ∧ ROwn wr V.heap.size (.slice A R.length c) R ∧ Blk wr w.heap.size 27 #[.string { data := #[] }, .slice none 0 0, .int .i64 0] ∧ DeckP wr dk ∧ w.grownBy wr (some dk) ∧ V.heap.size ≤ wr.heap.size
theorem DeckP.turn {a w : World} {dk : Nat} {r : Option Nat} (h : DeckP a dk) (hg : a.grownBy w r) (hr : ∀ k, r = some k → dk < k) : DeckP w dk := by
  have hl := h.lt
  obtain ⟨A, n, c, p, h1, h2, h3, h4, h5⟩ := h
  have hk : ∀ b, b ≤ dk → w.heap[b]? = a.heap[b]? := fun b hb => hg.block b (by omega) (fun e => by have := hr b e.symm; omega)
  refine ⟨A, n, c, p, (hk dk (Nat.le_refl _)).trans h1, h2, h3, h4, fun j hj => ?_⟩
  obtain ⟨b, o, v, e, hlt, hc, hv⟩ := h5 j hj
  exact ⟨b, o, v, e, hlt, (World.cell?_of_block (hk b (Nat.le_of_lt hlt))).trans hc, hv⟩
theorem turn_rowC {a w w1 : World} {r r' : Option Nat} (h : a.grownBy w r) (k : w.grownBy w1 r') (hr : ∀ g, r' = some g → a.heap.size ≤ g) : a.grownBy w1 r :=
  ⟨k.os.trans h.os, k.tape.trans h.tape, k.output.trans h.output, Nat.le_trans h.size k.size, fun i hi hn => (k.block i (Nat.lt_of_lt_of_le hi h.size) (fun e => absurd (hr i e.symm) (Nat.not_le.2 hi))).trans (h.block i hi hn)⟩
theorem Blk.turns {a w : World} {b : Nat} {t : TypeId} {cs : Array Value} {r : Option Nat} (h : Blk a b t cs) (hg : a.grownBy w r) (hr : ∀ k, r = some k → b ≠ k) : Blk w b t cs := (hg.block b h.lt (fun e => hr b e.symm rfl)).trans h
theorem rowOwn_lo {w : World} {B : Nat} {v : Value} {R : List Rl} (h : ROwn w B v R) : ∀ k, v.ownBlock = some k → B ≤ k := fun k e => (World.ownsRow.lt h k e).1
/-- A round of mk.Config's own rules. -/
theorem cfg_step {w V Z w1 : World} {dk cb n b x : Nat} {R : List Rl} {A : Option Addr} {c : Nat} {l q t f : Int} {v1 : Value} (hb : b < n) (ho : OwnR n b R) (hx : x ≤ 4607182418800017408) (l0 : 0 ≤ l) (l1 : l ≤ 64) (q0 : 0 ≤ q) (q1 : q ≤ 64) (hl : b + 1 = n → l = 0) (ht : t = if b + 1 = n then (b : Int) else ((b + 1 : Nat) : Int))
    (hf0 : b + 1 < n → f = 0) (hf1 : b + 1 = n → (x = 0 ∧ 1 ≤ f ∧ f ≤ 64) ∨ (x ≠ 0 ∧ f = 0)) (hB : Blk Z cb 27 #[.string ownN, .slice A R.length c, .int .i64 f]) (hO : ROwn Z V.heap.size (.slice A R.length c) R)
    (hres : Blk Z w.heap.size 27 #[.string { data := #[] }, .slice none 0 0, .int .i64 0]) (hd : DeckP Z dk) (hG : w.grownBy Z (some dk)) (hZ : V.heap.size ≤ Z.heap.size) (h1 : cb < V.heap.size) (h2 : w.heap.size < cb) (h3 : dk < w.heap.size)
    (hg : (Z.alloc (.cells #[.float .f64 x, .int .i64 l, .int .i64 q, .int .i64 t] 63)).grownBy w1 (Value.slice A R.length c).ownBlock) (hn : ROwn w1 V.heap.size v1 (R ++ [⟨x, l, q, t⟩])) :
    CfgR w V dk cb n (.int .i64 ((b : Int) + 1)) (w1.setCell ⟨cb, 1, none⟩ v1) := by
  have hlo := rowOwn_lo hO
  have hbz : Below Z.heap.size Z (Z.alloc (.cells #[.float .f64 x, .int .i64 l, .int .i64 q, .int .i64 t] 63)) := (Below.refl _ _).alloc (Nat.le_refl _) _
  have B1 : Blk w1 cb 27 #[.string ownN, .slice A R.length c, .int .i64 f] := (hB.next hbz).turns hg fun k e => by have := hlo k e; omega
  have B2 := (hres.next hbz).turns hg fun k e => by have := hlo k e; omega
  have D2 := (hd.next hbz).turn hg fun k e => by have := hlo k e; omega
  have G2 := turn_rowC (turn_next hG hbz) hg fun k e => by have := hlo k e; omega
  obtain ⟨A1, c1, rfl, _⟩ := hn.slice
  refine ⟨b + 1, R ++ [⟨x, l, q, t⟩], A1, c1, f, by omega, by go_num, ho.snoc hb hx l0 l1 q0 q1 hl ht, hf0, fun e => by rw [lastS_snoc]; exact hf1 e, B1.set_ 1 _, hn.keep (fun g hg _ => Below.heap_setCell w1 _ _ g (by show g ≠ cb; omega)), B2.far (by show w.heap.size ≠ cb; omega) _, D2.far (by show dk < cb; omega) _, turn_new G2 ⟨cb, 1, none⟩ (by show w.heap.size ≤ cb; omega) _, ?_⟩
  simp only [World.size_setCell]
  have := hg.size
  have := hbz.size
  omega
/-- What holds of all but the new rule (in the box rb) inside a round. -/
def FB (w V : World) (dk cb rb : Nat) (R : List Rl) (A : Option Addr) (c : Nat) (f : Int) (X : World) : Prop :=
  Blk X cb 27 #[.string ownN, .slice A R.length c, .int .i64 f] ∧ ROwn X V.heap.size (.slice A R.length c) R ∧ Blk X w.heap.size 27 #[.string { data := #[] }, .slice none 0 0, .int .i64 0] ∧ DeckP X dk ∧ w.grownBy X (some dk) ∧ V.heap.size ≤ X.heap.size ∧ (∀ k, (Value.slice A R.length c).ownBlock = some k → k ≠ rb)
def Ord (w V : World) (dk cb rb : Nat) : Prop := dk < w.heap.size ∧ w.heap.size < cb ∧ cb < V.heap.size ∧ V.heap.size ≤ rb
section
variable {w V X X' : World} {dk cb rb : Nat} {R : List Rl} {A : Option Addr} {c : Nat} {f : Int}
theorem FB.deck (h : FB w V dk cb rb R A c f X) (o : Ord w V dk cb rb) (hg : X.grownBy X' (some dk)) (hd : DeckP X' dk) : FB w V dk cb rb R A c f X' := by
  obtain ⟨h1, h2, h3, h4, h5, h6, h7⟩ := h
  obtain ⟨o1, o2, o3, o4⟩ := o
  exact ⟨h1.turn hg (by omega), h2.keep fun g hg' hl => hg.block g hl (fun e => by injection e with e; omega), h3.turn hg (by omega), hd, turn_trans h5 hg, Nat.le_trans h6 hg.size, h7⟩
theorem ROwn.far_ {w : World} {B : Nat} {v : Value} {R : List Rl} (h : ROwn w B v R) {p : Addr} (hp : ∀ k, v.ownBlock = some k → k ≠ p.block) (u : Value) : ROwn (w.setCell p u) B v R := by
  obtain ⟨hl, h⟩ := h
  refine ⟨hl, h.imp id fun ⟨g, cap, cur, h1, h2, h3, h4⟩ => ⟨g, cap, cur, h1, h2, (Below.heap_setCell w p u g (hp g (by rw [h1]; rfl))).trans h3, h4⟩⟩
theorem FB.put (h : FB w V dk cb rb R A c f X) (o : Ord w V dk cb rb) (i : Nat) (u : Value) : FB w V dk cb rb R A c f (X.setCell ⟨rb, i, none⟩ u) := by
  obtain ⟨h1, h2, h3, h4, h5, h6, h7⟩ := h
  obtain ⟨o1, o2, o3, o4⟩ := o
  exact ⟨h1.far (by show cb ≠ rb; omega) u, h2.far_ h7 u, h3.far (by show w.heap.size ≠ rb; omega) u, h4.far (by show dk < rb; omega) u, turn_new h5 ⟨rb, i, none⟩ (by show w.heap.size ≤ rb; omega) u, by simp only [World.size_setCell]; exact h6, h7⟩
theorem FB.full (h : FB w V dk cb rb R A c f X) (o : Ord w V dk cb rb) (f' : Int) : FB w V dk cb rb R A c f' (X.setCell ⟨cb, 2, none⟩ (.int .i64 f')) := by
  obtain ⟨h1, h2, h3, h4, h5, h6, h7⟩ := h
  obtain ⟨o1, o2, o3, o4⟩ := o
  have hlo := rowOwn_lo h2
  exact ⟨h1.set_ 2 _, h2.far_ (fun k e => by have := hlo k e; show k ≠ cb; omega) _, h3.far (by show w.heap.size ≠ cb; omega) _, h4.far (by show dk < cb; omega) _, turn_new h5 ⟨cb, 2, none⟩ (by show w.heap.size ≤ cb; omega) _, by simp only [World.size_setCell]; exact h6, h7⟩
end
theorem new4 (W : World) (a b c d : Value) (t : TypeId) (g : Nat) (hg : W.heap.size = g) : ∀ (j : Nat) (u : Value), [a, b, c, d][j]? = some u → (W.alloc (.cells #[a, b, c, d] t)).cell? ((⟨g, 0, none⟩ : Addr).add j) = some u := by
  intro j u hu
  subst hg
  rw [add_at, Nat.zero_add, (Blk.new W t #[a, b, c, d]).cell j]
  simpa using hu
/-- The same, and the deck stays one. -/
def CfgD (w : World) (dk : Nat) (e : Ending) (w' : World) : Prop := CfgOf w dk e w' ∧ DeckP w' dk
theorem cfg_close {w N : World} {dk : Nat} {P : Nat → Prop} {s : ByteArray} {A : Option Addr} {c : Nat} {R : List Rl} {f : Int} (hR : RArr N P A c R) (hP : ∀ b, P b → w.heap.size < b ∧ b < N.heap.size) (hG : w.grownBy N (some dk)) (hW : WfR R) (hs : s.size ≤ 16) (hc : chk s R f = 0) (hD : DeckP N dk) (hdw : dk < w.heap.size) :
    CfgD w dk (.returned (.agg #[.string s, .slice A R.length c, .int .i64 f])) (((N.setCell ⟨w.heap.size, 0, none⟩ (.string s)).setCell ⟨w.heap.size, 1, none⟩ (.slice A R.length c)).setCell ⟨w.heap.size, 2, none⟩ (.int .i64 f)) := by
  have hno : ¬ P w.heap.size := fun h => absurd (hP _ h).1 (Nat.lt_irrefl _)
  refine ⟨⟨s, A, c, R, f, rfl, RArr.mono (P := P) (((hR.far hno _).far hno _).far hno _) fun b hb => ⟨Nat.le_of_lt (hP b hb).1, ?_⟩, hW, hs, hc, turn_new (turn_new (turn_new hG ⟨w.heap.size, 0, none⟩ (Nat.le_refl _) _) ⟨w.heap.size, 1, none⟩ (Nat.le_refl _) _) ⟨w.heap.size, 2, none⟩ (Nat.le_refl _) _⟩, ((hD.far (p := ⟨w.heap.size, 0, none⟩) hdw _).far (p := ⟨w.heap.size, 1, none⟩) hdw _).far (p := ⟨w.heap.size, 2, none⟩) hdw _⟩
  simp only [World.size_setCell]
  exact (hP b hb).2
set_option maxHeartbeats 16000000 in
theorem cfgD_any (dk : Nat) (w : World) (hd : DeckP w dk) : Calls Tryd.prog 25 #[.pointer (some ⟨dk, 0, none⟩)] w (CfgD w dk) := by
  obtain ⟨W0, hW0⟩ : ∃ W, W = w.alloc (.cells #[.string { data := #[] }, .slice none 0 0, .int .i64 0] 27) := ⟨_, rfl⟩
  have B0 := Lib.hid (show Blk W0 w.heap.size 27 #[.string { data := #[] }, .slice none 0 0, .int .i64 0] by rw [hW0]; exact Blk.new _ _ _)
  have hb0 : Below w.heap.size w W0 := by rw [hW0]; exact (Below.refl _ _).alloc (Nat.le_refl _) _
  have HD0 := Lib.hid (hd.next hb0)
  have hdl := hd.lt
  have HW0 := Lib.hid hW0
  have HB0 := Lib.hid hb0
  clear hW0 hb0 hd
  go_enter Tryd.func25, Tryd.ntmps25
  go_wp2_with fail
  rw [← HW0.out]
  refine (next_any dk 3 W0 (by decide) (by decide) HD0.out).mono ?_
  rintro e P0 ⟨v, rfl, v0, v1, hd1, hg1⟩
  have HD1 := Lib.hid hd1
  have HG1 := Lib.hid hg1
  have B1 := Lib.hid (B0.out.turn hg1 (by omega))
  clear hd1 hg1 B0
  by_cases hv : 0 < v
  · go_upto_region 2 with fail
    have hdk : dk < P0.heap.size := HD1.out.lt
    go_cut [3, 4] (fun p e wx => SomePre P0 dk p e wx)
    case first =>
      have D0 : DeckP P0.drew dk := HD1.out
      have G0 : P0.grownBy P0.drew (some dk) := turn_below (Below.refl P0.heap.size P0).drew
      have zP0d : P0.heap.size ≤ P0.drew.heap.size := Nat.le_refl _
      refine wp_region_held_drew (S := (fun w' => True)) (by kernel_rfl) ?_ (fun hHeld => ?_)
      · exact trivial
      (refine wpAnyH_take (i := 1) (v := ?_) rfl (by kernel_rfl) (by kernel_rfl) (by kernel_rfl) (fun _ _ _ h => h) (Or.inl ⟨by rfl, ?_⟩) (by assumption) ?_; rotate_left 1; (focus (intro w' hSw; (try dsimp only at hSw); go_simp; (try with_reducible rfl); done)); try simp only [Act.put, List.setIfInBounds_toArray, List.set_cons_zero, List.set_cons_succ, List.getElem_toArray, List.getElem_cons_zero, List.getElem_cons_succ])
      (refine wpAnyH_take (i := 5) (v := ?_) rfl (by kernel_rfl) (by kernel_rfl) (by kernel_rfl) (fun _ _ _ h => h) (Or.inl ⟨by rfl, ?_⟩) (by assumption) ?_; rotate_left 1; (focus (intro w' hSw; (try dsimp only at hSw); go_simp; (try with_reducible rfl); done)); try simp only [Act.put, List.setIfInBounds_toArray, List.set_cons_zero, List.set_cons_succ, List.getElem_toArray, List.getElem_cons_zero, List.getElem_cons_succ])
      (refine wpAnyH_take (i := 9) (v := ?_) rfl (by kernel_rfl) (by kernel_rfl) (by kernel_rfl) (fun _ _ _ h => h) (Or.inl ⟨by rfl, ?_⟩) (by assumption) ?_; rotate_left 1; (focus (intro w' hSw; (try dsimp only at hSw); go_simp; (try with_reducible rfl); done)); try simp only [Act.put, List.setIfInBounds_toArray, List.set_cons_zero, List.set_cons_succ, List.getElem_toArray, List.getElem_cons_zero, List.getElem_cons_succ])
      refine wpAnyH_ready (rs := [0, 17]) (by kernel_rfl) (by simp) ?_
      refine AllReadyH.cons rfl (fun K hK => ?_) (AllReadyH.cons rfl (fun K hK => ?_) AllReadyH.nil)
      · go_simp
        go_at_call 47
        refine (names_any _).mono ?_
        rintro e N1 ⟨rfl, hN1⟩
        have bN1 : Below P0.drew.heap.size P0.drew N1 := by rw [hN1]; exact (Below.refl _ _).alloc (Nat.le_refl _) _
        have NB_1 : Blk N1 P0.heap.size 9 #[.string (preN 0), .string (preN 1), .string (preN 2), .string (preN 3), .string (preN 4), .string (preN 5)] := by rw [hN1]; exact Blk.new _ _ _
        clear hN1
        have zN1 : P0.heap.size ≤ N1.heap.size := Nat.le_trans zP0d bN1.size
        have sN1 := bN1.size
        have G_1 := turn_next G0 bN1
        have D_1 := D0.next bN1
        have nl := NB_1.lt
        go_wp2_with fail
        refine hK.out _ _ trivial (fun hHeld2 => ?_)
        clear hK K hHeld
        have hHeld := hHeld2
        clear hHeld2
        try simp only [Act.put, List.setIfInBounds_toArray, List.set_cons_zero, List.set_cons_succ, List.getElem_toArray, List.getElem_cons_zero, List.getElem_cons_succ]
        refine wpAnyH_ready (rs := [2, 17]) (by kernel_rfl) (by simp) ?_
        refine AllReadyH.cons rfl (fun K hK => ?_) (AllReadyH.cons rfl (fun K hK => ?_) AllReadyH.nil)
        · go_simp
          go_at_call 26
          refine (next_any dk 6 _ (by decide) (by decide) D_1).mono ?_
          rintro e N2 ⟨vi, rfl, vi0, vi1, D_2, gN2⟩
          have zN2 : P0.heap.size ≤ N2.heap.size := Nat.le_trans zN1 gN2.size
          have sN2 := gN2.size
          have NB_2 := NB_1.turn gN2 (by omega)
          have G_2 := turn_trans G_1 gN2
          obtain ⟨i, rfl⟩ := Int.eq_ofNat_of_zero_le vi0
          have i6 : i < 6 := by omega
          have i7 : 0 ≤ (i : Int) ∧ (i : Int) < 6 := by omega
          clear vi0 vi1
          go_wp2_with fail
          refine hK.out _ _ trivial (fun hHeld2 => ?_)
          clear hK K hHeld
          have hHeld := hHeld2
          clear hHeld2
          try simp only [Act.put, List.setIfInBounds_toArray, List.set_cons_zero, List.set_cons_succ, List.getElem_toArray, List.getElem_cons_zero, List.getElem_cons_succ]
          have hHeld2 := names_get NB_2 i6
          refine wpAnyH_mono (S' := fun w' => w'.cell? ⟨P0.heap.size, i, none⟩ = some (.string (preN i))) (fun _ _ => trivial) _ _ _ _ ?_
          clear hHeld
          have hHeld := hHeld2
          clear hHeld2
          (refine wpAnyH_take (i := 3) (v := ?_) rfl (by kernel_rfl) (by kernel_rfl) (by kernel_rfl) (fun _ _ _ h => h) (Or.inl ⟨by rfl, ?_⟩) (by assumption) ?_; rotate_left 1; (focus (intro w' hSw; (try dsimp only at hSw); go_simp; (try with_reducible rfl); done)); try simp only [Act.put, List.setIfInBounds_toArray, List.set_cons_zero, List.set_cons_succ, List.getElem_toArray, List.getElem_cons_zero, List.getElem_cons_succ])
          (refine wpAnyH_take (i := 4) (v := ?_) rfl (by kernel_rfl) (by kernel_rfl) (by kernel_rfl) (fun _ _ _ h => h) (Or.inl ⟨by rfl, ?_⟩) (by assumption) ?_; rotate_left 1; (focus (intro w' hSw; (try dsimp only at hSw); go_simp; (try with_reducible rfl); done)); try simp only [Act.put, List.setIfInBounds_toArray, List.set_cons_zero, List.set_cons_succ, List.getElem_toArray, List.getElem_cons_zero, List.getElem_cons_succ])
          refine wpAnyH_ready (rs := [6, 17]) (by kernel_rfl) (by simp) ?_
          refine AllReadyH.cons rfl (fun K hK => ?_) (AllReadyH.cons rfl (fun K hK => ?_) AllReadyH.nil)
          · go_simp
            go_at_call 26
            refine (next_any dk 100 _ (by decide) (by decide) D_2).mono ?_
            rintro e N3 ⟨u, rfl, u0, u1, D_3, gN3⟩
            have zN3 : P0.heap.size ≤ N3.heap.size := Nat.le_trans zN2 gN3.size
            have sN3 := gN3.size
            have NB_3 := NB_2.turn gN3 (by omega)
            have G_3 := turn_trans G_2 gN3
            have hw : IntKind.i64.wrap (1 + u) = 1 + u := IntWalk.i64_in _ (by omega)
            go_wp2_with fail
            refine hK.out _ _ (names_get NB_3 i6) (fun hHeld2 => ?_)
            clear hK K hHeld
            have hHeld := hHeld2
            clear hHeld2
            try simp only [Act.put, List.setIfInBounds_toArray, List.set_cons_zero, List.set_cons_succ, List.getElem_toArray, List.getElem_cons_zero, List.getElem_cons_succ]
            (refine wpAnyH_take (i := 7) (v := ?_) rfl (by kernel_rfl) (by kernel_rfl) (by kernel_rfl) (fun _ _ _ h => h) (Or.inl ⟨by rfl, ?_⟩) (by assumption) ?_; rotate_left 1; (focus (intro w' hSw; (try dsimp only at hSw); go_simp; (try with_reducible rfl); done)); try simp only [Act.put, List.setIfInBounds_toArray, List.set_cons_zero, List.set_cons_succ, List.getElem_toArray, List.getElem_cons_zero, List.getElem_cons_succ])
            refine wpAnyH_ready (rs := [8, 10, 17]) (by kernel_rfl) (by simp) ?_
            refine AllReadyH.cons rfl (fun K hK => ?_) (AllReadyH.cons rfl (fun K hK => ?_) (AllReadyH.cons rfl (fun K hK => ?_) AllReadyH.nil))
            · go_simp
              obtain ⟨N4, hN4⟩ : ∃ W', W' = World.alloc N3 (.cells #[.int .i64 10, .int .i64 15, .int .i64 25, .int .i64 30, .int .i64 50, .int .i64 (1 + u)] 3) := ⟨_, rfl⟩
              rw [← hN4]
              have bN4 : Below N3.heap.size N3 N4 := by rw [hN4]; exact (Below.refl _ _).alloc (Nat.le_refl _) _
              have IB_4 : Blk N4 N3.heap.size 3 #[.int .i64 10, .int .i64 15, .int .i64 25, .int .i64 30, .int .i64 50, .int .i64 (1 + u)] := by rw [hN4]; exact Blk.new _ _ _
              clear hN4
              have zN4 : P0.heap.size ≤ N4.heap.size := Nat.le_trans zN3 bN4.size
              have sN4 := bN4.size
              have NB_4 := NB_3.next bN4
              have G_4 := turn_next G_3 bN4
              have D_4 := D_3.next bN4
              have il := IB_4.lt
              refine hK.out _ _ (names_get NB_4 i6) (fun hHeld2 => ?_)
              clear hK K hHeld
              have hHeld := hHeld2
              clear hHeld2
              try simp only [Act.put, List.setIfInBounds_toArray, List.set_cons_zero, List.set_cons_succ, List.getElem_toArray, List.getElem_cons_zero, List.getElem_cons_succ]
              refine wpAnyH_ready (rs := [10, 17]) (by kernel_rfl) (by simp) ?_
              refine AllReadyH.cons rfl (fun K hK => ?_) (AllReadyH.cons rfl (fun K hK => ?_) AllReadyH.nil)
              · go_simp
                go_at_call 26
                refine (next_any dk 6 _ (by decide) (by decide) D_4).mono ?_
                rintro e N5 ⟨vj, rfl, vj0, vj1, D_5, gN5⟩
                have zN5 : P0.heap.size ≤ N5.heap.size := Nat.le_trans zN4 gN5.size
                have sN5 := gN5.size
                have NB_5 := NB_4.turn gN5 (by omega)
                have IB_5 := IB_4.turn gN5 (by omega)
                have G_5 := turn_trans G_4 gN5
                obtain ⟨j, rfl⟩ := Int.eq_ofNat_of_zero_le vj0
                have j6 : j < 6 := by omega
                have j7 : 0 ≤ (j : Int) ∧ (j : Int) < 6 := by omega
                clear vj0 vj1
                go_wp2_with fail
                refine hK.out _ _ (names_get NB_5 i6) (fun hHeld2 => ?_)
                clear hK K hHeld
                have hHeld := hHeld2
                clear hHeld2
                try simp only [Act.put, List.setIfInBounds_toArray, List.set_cons_zero, List.set_cons_succ, List.getElem_toArray, List.getElem_cons_zero, List.getElem_cons_succ]
                obtain ⟨pc, hpc, p1, p2⟩ := ints_get (u := u) u0 u1 j6
                have hHeld2 := And.intro hHeld ((IB_5.cell j).trans hpc)
                refine wpAnyH_mono (S' := fun w' => w'.cell? ⟨P0.heap.size, i, none⟩ = some (.string (preN i)) ∧ w'.cell? ⟨N3.heap.size, j, none⟩ = some (.int .i64 pc)) (fun _ h => h.1) _ _ _ _ ?_
                clear hHeld
                have hHeld := hHeld2
                clear hHeld2
                (refine wpAnyH_take (i := 11) (v := ?_) rfl (by kernel_rfl) (by kernel_rfl) (by kernel_rfl) (fun _ _ _ h => h) (Or.inl ⟨by rfl, ?_⟩) (by assumption) ?_; rotate_left 1; (focus (intro w' hSw; (try dsimp only at hSw); go_simp; (try with_reducible rfl); done)); try simp only [Act.put, List.setIfInBounds_toArray, List.set_cons_zero, List.set_cons_succ, List.getElem_toArray, List.getElem_cons_zero, List.getElem_cons_succ])
                (refine wpAnyH_take (i := 12) (v := ?_) rfl (by kernel_rfl) (by kernel_rfl) (by kernel_rfl) (fun _ _ _ h => h) (Or.inl ⟨by rfl, ?_⟩) (by assumption) ?_; rotate_left 1; (focus (intro w' hSw; (try dsimp only at hSw); go_simp; (try with_reducible rfl); done)); try simp only [Act.put, List.setIfInBounds_toArray, List.set_cons_zero, List.set_cons_succ, List.getElem_toArray, List.getElem_cons_zero, List.getElem_cons_succ])
                refine wpAnyH_ready (rs := [13, 17]) (by kernel_rfl) (by simp) ?_
                refine AllReadyH.cons rfl (fun K hK => ?_) (AllReadyH.cons rfl (fun K hK => ?_) AllReadyH.nil)
                · go_simp
                  go_at_call 46
                  refine (get_any i i6 pc _ p1 p2).mono ?_
                  rintro e N6 ⟨v, rfl, hro, bN6⟩
                  obtain ⟨A, c, rfl, RA_6⟩ := hro.slice
                  have zN6 : P0.heap.size ≤ N6.heap.size := Nat.le_trans zN5 bN6.size
                  have sN6 := bN6.size
                  have NB_6 := NB_5.next bN6
                  have IB_6 := IB_5.next bN6
                  have G_6 := turn_next G_5 bN6
                  have D_6 := D_5.next bN6
                  go_wp2_with fail
                  refine hK.out _ _ ⟨(names_get NB_6 i6), ((IB_6.cell j).trans hpc)⟩ (fun hHeld2 => ?_)
                  clear hK K hHeld
                  have hHeld := hHeld2
                  clear hHeld2
                  try simp only [Act.put, List.setIfInBounds_toArray, List.set_cons_zero, List.set_cons_succ, List.getElem_toArray, List.getElem_cons_zero, List.getElem_cons_succ]
                  (refine wpAnyH_take (i := 14) (v := ?_) rfl (by kernel_rfl) (by kernel_rfl) (by kernel_rfl) (fun _ _ _ h => h) (Or.inl ⟨by rfl, ?_⟩) (by assumption) ?_; rotate_left 1; (focus (intro w' hSw; (try dsimp only at hSw); go_simp; (try with_reducible rfl); done)); try simp only [Act.put, List.setIfInBounds_toArray, List.set_cons_zero, List.set_cons_succ, List.getElem_toArray, List.getElem_cons_zero, List.getElem_cons_succ])
                  (refine wpAnyH_take (i := 15) (v := ?_) rfl (by kernel_rfl) (by kernel_rfl) (by kernel_rfl) (fun _ _ _ h => h) (Or.inl ⟨by rfl, ?_⟩) (by assumption) ?_; rotate_left 1; (focus (intro w' hSw; (try dsimp only at hSw); go_simp; (try with_reducible rfl); done)); try simp only [Act.put, List.setIfInBounds_toArray, List.set_cons_zero, List.set_cons_succ, List.getElem_toArray, List.getElem_cons_zero, List.getElem_cons_succ])
                  (refine wpAnyH_take (i := 16) (v := ?_) rfl (by kernel_rfl) (by kernel_rfl) (by kernel_rfl) (fun _ _ _ h => h) (Or.inl ⟨by rfl, ?_⟩) (by assumption) ?_; rotate_left 1; (focus (intro w' hSw; (try dsimp only at hSw); go_simp; (try with_reducible rfl); done)); try simp only [Act.put, List.setIfInBounds_toArray, List.set_cons_zero, List.set_cons_succ, List.getElem_toArray, List.getElem_cons_zero, List.getElem_cons_succ])
                  refine wpAnyH_ready (rs := [17]) (by kernel_rfl) (by simp) ?_
                  refine AllReadyH.cons rfl (fun K hK => ?_) AllReadyH.nil
                  go_simp
                  obtain ⟨N7, hN7⟩ : ∃ W', W' = World.alloc N6 (.cells #[.string { data := #[] }, .slice none 0 0, .int .i64 0] 27) := ⟨_, rfl⟩
                  rw [← hN7]
                  have bN7 : Below N6.heap.size N6 N7 := by rw [hN7]; exact (Below.refl _ _).alloc (Nat.le_refl _) _
                  have AB_7 : Blk N7 N6.heap.size 27 #[.string { data := #[] }, .slice none 0 0, .int .i64 0] := by rw [hN7]; exact Blk.new _ _ _
                  clear hN7
                  have zN7 : P0.heap.size ≤ N7.heap.size := Nat.le_trans zN6 bN7.size
                  have sN7 := bN7.size
                  have NB_7 := NB_6.next bN7
                  have IB_7 := IB_6.next bN7
                  have G_7 := turn_next G_6 bN7
                  have D_7 := D_6.next bN7
                  have RA_7 := RA_6.keep (w' := N7) (fun b o hb => bN7.cell (p := ⟨b, o, none⟩) hb.2)
                  have al := AB_7.lt
                  refine hK.out _ _ ⟨(names_get NB_7 i6), ((IB_7.cell j).trans hpc)⟩ (fun hHeld2 => ?_)
                  clear hK K hHeld
                  have hHeld := hHeld2
                  clear hHeld2
                  try simp only [Act.put, List.setIfInBounds_toArray, List.set_cons_zero, List.set_cons_succ, List.getElem_toArray, List.getElem_cons_zero, List.getElem_cons_succ]
                  have q0 := AB_7.cell 0
                  have q1 := AB_7.cell 1
                  have q2 := AB_7.cell 2
                  have y0 := AB_7.frozen 0
                  have y1 := AB_7.frozen 1
                  have y2 := AB_7.frozen 2
                  simp at q0 q1 q2
                  have Z := Lib.hid (pre_close (P0 := P0) (N := N7) (g := N6.heap.size) (dk := dk) (i := i) (x := Sh.pcF pc) (lo := N5.heap.size) (hi := N6.heap.size) i6 (pct_share p1 p2).1 (pct_share p1 p2).2.1 AB_7 G_7 D_7 RA_7 zN6 (by assumption) (by omega) (by omega) (by omega))
                  refine wpAnyH_ready (rs := [18]) (by kernel_rfl) (by simp) ?_
                  refine AllReadyH.cons rfl (fun K hK => ?_) AllReadyH.nil
                  go_simp
                  try simp only [y0, y1, y2, Bool.false_eq_true, if_false]
                  go_wp2_with fail
                  refine hK.out _ _ ?_ (fun hHeld2 => ?_)
                  · exact ⟨cell_store3 hHeld.1 (by omega) _ _ _, cell_store3 hHeld.2 (by omega) _ _ _⟩
                  clear hK K hHeld
                  have hHeld := hHeld2
                  clear hHeld2
                  try simp only [Act.put, List.setIfInBounds_toArray, List.set_cons_zero, List.set_cons_succ, List.getElem_toArray, List.getElem_cons_zero, List.getElem_cons_succ]
                  (refine wpAnyH_take (i := 19) (v := ?_) rfl (by kernel_rfl) (by kernel_rfl) (by kernel_rfl) (fun _ _ _ h => h) (Or.inl ⟨by rfl, ?_⟩) (by assumption) ?_; rotate_left 1; (focus (intro w' hSw; (try dsimp only at hSw); go_simp; (try with_reducible rfl); done)); try simp only [Act.put, List.setIfInBounds_toArray, List.set_cons_zero, List.set_cons_succ, List.getElem_toArray, List.getElem_cons_zero, List.getElem_cons_succ])
                  refine wpAnyH_done (by kernel_rfl) ?_ _
                  clear hHeld
                  go_wp2
                  go_meet
                  exact ⟨_, rfl, rfl, Z.out⟩
                · go_simp
                  obtain ⟨N6, hN6⟩ : ∃ W', W' = World.alloc N5 (.cells #[.string { data := #[] }, .slice none 0 0, .int .i64 0] 27) := ⟨_, rfl⟩
                  rw [← hN6]
                  have bN6 : Below N5.heap.size N5 N6 := by rw [hN6]; exact (Below.refl _ _).alloc (Nat.le_refl _) _
                  have AB_6 : Blk N6 N5.heap.size 27 #[.string { data := #[] }, .slice none 0 0, .int .i64 0] := by rw [hN6]; exact Blk.new _ _ _
                  clear hN6
                  have zN6 : P0.heap.size ≤ N6.heap.size := Nat.le_trans zN5 bN6.size
                  have sN6 := bN6.size
                  have NB_6 := NB_5.next bN6
                  have IB_6 := IB_5.next bN6
                  have G_6 := turn_next G_5 bN6
                  have D_6 := D_5.next bN6
                  have al := AB_6.lt
                  refine hK.out _ _ ⟨(names_get NB_6 i6), ((IB_6.cell j).trans hpc)⟩ (fun hHeld2 => ?_)
                  clear hK K hHeld
                  have hHeld := hHeld2
                  clear hHeld2
                  try simp only [Act.put, List.setIfInBounds_toArray, List.set_cons_zero, List.set_cons_succ, List.getElem_toArray, List.getElem_cons_zero, List.getElem_cons_succ]
                  refine wpAnyH_ready (rs := [13]) (by kernel_rfl) (by simp) ?_
                  refine AllReadyH.cons rfl (fun K hK => ?_) AllReadyH.nil
                  go_simp
                  go_at_call 46
                  refine (get_any i i6 pc _ p1 p2).mono ?_
                  rintro e N7 ⟨v, rfl, hro, bN7⟩
                  obtain ⟨A, c, rfl, RA_7⟩ := hro.slice
                  have zN7 : P0.heap.size ≤ N7.heap.size := Nat.le_trans zN6 bN7.size
                  have sN7 := bN7.size
                  have NB_7 := NB_6.next bN7
                  have IB_7 := IB_6.next bN7
                  have AB_7 := AB_6.next bN7
                  have G_7 := turn_next G_6 bN7
                  have D_7 := D_6.next bN7
                  go_wp2_with fail
                  refine hK.out _ _ ⟨(names_get NB_7 i6), ((IB_7.cell j).trans hpc)⟩ (fun hHeld2 => ?_)
                  clear hK K hHeld
                  have hHeld := hHeld2
                  clear hHeld2
                  try simp only [Act.put, List.setIfInBounds_toArray, List.set_cons_zero, List.set_cons_succ, List.getElem_toArray, List.getElem_cons_zero, List.getElem_cons_succ]
                  (refine wpAnyH_take (i := 14) (v := ?_) rfl (by kernel_rfl) (by kernel_rfl) (by kernel_rfl) (fun _ _ _ h => h) (Or.inl ⟨by rfl, ?_⟩) (by assumption) ?_; rotate_left 1; (focus (intro w' hSw; (try dsimp only at hSw); go_simp; (try with_reducible rfl); done)); try simp only [Act.put, List.setIfInBounds_toArray, List.set_cons_zero, List.set_cons_succ, List.getElem_toArray, List.getElem_cons_zero, List.getElem_cons_succ])
                  (refine wpAnyH_take (i := 15) (v := ?_) rfl (by kernel_rfl) (by kernel_rfl) (by kernel_rfl) (fun _ _ _ h => h) (Or.inl ⟨by rfl, ?_⟩) (by assumption) ?_; rotate_left 1; (focus (intro w' hSw; (try dsimp only at hSw); go_simp; (try with_reducible rfl); done)); try simp only [Act.put, List.setIfInBounds_toArray, List.set_cons_zero, List.set_cons_succ, List.getElem_toArray, List.getElem_cons_zero, List.getElem_cons_succ])
                  (refine wpAnyH_take (i := 16) (v := ?_) rfl (by kernel_rfl) (by kernel_rfl) (by kernel_rfl) (fun _ _ _ h => h) (Or.inl ⟨by rfl, ?_⟩) (by assumption) ?_; rotate_left 1; (focus (intro w' hSw; (try dsimp only at hSw); go_simp; (try with_reducible rfl); done)); try simp only [Act.put, List.setIfInBounds_toArray, List.set_cons_zero, List.set_cons_succ, List.getElem_toArray, List.getElem_cons_zero, List.getElem_cons_succ])
                  have q0 := AB_7.cell 0
                  have q1 := AB_7.cell 1
                  have q2 := AB_7.cell 2
                  have y0 := AB_7.frozen 0
                  have y1 := AB_7.frozen 1
                  have y2 := AB_7.frozen 2
                  simp at q0 q1 q2
                  have Z := Lib.hid (pre_close (P0 := P0) (N := N7) (g := N5.heap.size) (dk := dk) (i := i) (x := Sh.pcF pc) (lo := N6.heap.size) (hi := N7.heap.size) i6 (pct_share p1 p2).1 (pct_share p1 p2).2.1 AB_7 G_7 D_7 RA_7 zN5 (by assumption) (by omega) (by omega) (by omega))
                  refine wpAnyH_ready (rs := [18]) (by kernel_rfl) (by simp) ?_
                  refine AllReadyH.cons rfl (fun K hK => ?_) AllReadyH.nil
                  go_simp
                  try simp only [y0, y1, y2, Bool.false_eq_true, if_false]
                  go_wp2_with fail
                  refine hK.out _ _ ?_ (fun hHeld2 => ?_)
                  · exact ⟨cell_store3 hHeld.1 (by omega) _ _ _, cell_store3 hHeld.2 (by omega) _ _ _⟩
                  clear hK K hHeld
                  have hHeld := hHeld2
                  clear hHeld2
                  try simp only [Act.put, List.setIfInBounds_toArray, List.set_cons_zero, List.set_cons_succ, List.getElem_toArray, List.getElem_cons_zero, List.getElem_cons_succ]
                  (refine wpAnyH_take (i := 19) (v := ?_) rfl (by kernel_rfl) (by kernel_rfl) (by kernel_rfl) (fun _ _ _ h => h) (Or.inl ⟨by rfl, ?_⟩) (by assumption) ?_; rotate_left 1; (focus (intro w' hSw; (try dsimp only at hSw); go_simp; (try with_reducible rfl); done)); try simp only [Act.put, List.setIfInBounds_toArray, List.set_cons_zero, List.set_cons_succ, List.getElem_toArray, List.getElem_cons_zero, List.getElem_cons_succ])
                  refine wpAnyH_done (by kernel_rfl) ?_ _
                  clear hHeld
                  go_wp2
                  go_meet
                  exact ⟨_, rfl, rfl, Z.out⟩
              · go_simp
                obtain ⟨N5, hN5⟩ : ∃ W', W' = World.alloc N4 (.cells #[.string { data := #[] }, .slice none 0 0, .int .i64 0] 27) := ⟨_, rfl⟩
                rw [← hN5]
                have bN5 : Below N4.heap.size N4 N5 := by rw [hN5]; exact (Below.refl _ _).alloc (Nat.le_refl _) _
                have AB_5 : Blk N5 N4.heap.size 27 #[.string { data := #[] }, .slice none 0 0, .int .i64 0] := by rw [hN5]; exact Blk.new _ _ _
                clear hN5
                have zN5 : P0.heap.size ≤ N5.heap.size := Nat.le_trans zN4 bN5.size
                have sN5 := bN5.size
                have NB_5 := NB_4.next bN5
                have IB_5 := IB_4.next bN5
                have G_5 := turn_next G_4 bN5
                have D_5 := D_4.next bN5
                have al := AB_5.lt
                refine hK.out _ _ (names_get NB_5 i6) (fun hHeld2 => ?_)
                clear hK K hHeld
                have hHeld := hHeld2
                clear hHeld2
                try simp only [Act.put, List.setIfInBounds_toArray, List.set_cons_zero, List.set_cons_succ, List.getElem_toArray, List.getElem_cons_zero, List.getElem_cons_succ]
                refine wpAnyH_ready (rs := [10]) (by kernel_rfl) (by simp) ?_
                refine AllReadyH.cons rfl (fun K hK => ?_) AllReadyH.nil
                go_simp
                go_at_call 26
                refine (next_any dk 6 _ (by decide) (by decide) D_5).mono ?_
                rintro e N6 ⟨vj, rfl, vj0, vj1, D_6, gN6⟩
                have zN6 : P0.heap.size ≤ N6.heap.size := Nat.le_trans zN5 gN6.size
                have sN6 := gN6.size
                have NB_6 := NB_5.turn gN6 (by omega)
                have IB_6 := IB_5.turn gN6 (by omega)
                have AB_6 := AB_5.turn gN6 (by omega)
                have G_6 := turn_trans G_5 gN6
                obtain ⟨j, rfl⟩ := Int.eq_ofNat_of_zero_le vj0
                have j6 : j < 6 := by omega
                have j7 : 0 ≤ (j : Int) ∧ (j : Int) < 6 := by omega
                clear vj0 vj1
                go_wp2_with fail
                refine hK.out _ _ (names_get NB_6 i6) (fun hHeld2 => ?_)
                clear hK K hHeld
                have hHeld := hHeld2
                clear hHeld2
                try simp only [Act.put, List.setIfInBounds_toArray, List.set_cons_zero, List.set_cons_succ, List.getElem_toArray, List.getElem_cons_zero, List.getElem_cons_succ]
                obtain ⟨pc, hpc, p1, p2⟩ := ints_get (u := u) u0 u1 j6
                have hHeld2 := And.intro hHeld ((IB_6.cell j).trans hpc)
                refine wpAnyH_mono (S' := fun w' => w'.cell? ⟨P0.heap.size, i, none⟩ = some (.string (preN i)) ∧ w'.cell? ⟨N3.heap.size, j, none⟩ = some (.int .i64 pc)) (fun _ h => h.1) _ _ _ _ ?_
                clear hHeld
                have hHeld := hHeld2
                clear hHeld2
                (refine wpAnyH_take (i := 11) (v := ?_) rfl (by kernel_rfl) (by kernel_rfl) (by kernel_rfl) (fun _ _ _ h => h) (Or.inl ⟨by rfl, ?_⟩) (by assumption) ?_; rotate_left 1; (focus (intro w' hSw; (try dsimp only at hSw); go_simp; (try with_reducible rfl); done)); try simp only [Act.put, List.setIfInBounds_toArray, List.set_cons_zero, List.set_cons_succ, List.getElem_toArray, List.getElem_cons_zero, List.getElem_cons_succ])
                (refine wpAnyH_take (i := 12) (v := ?_) rfl (by kernel_rfl) (by kernel_rfl) (by kernel_rfl) (fun _ _ _ h => h) (Or.inl ⟨by rfl, ?_⟩) (by assumption) ?_; rotate_left 1; (focus (intro w' hSw; (try dsimp only at hSw); go_simp; (try with_reducible rfl); done)); try simp only [Act.put, List.setIfInBounds_toArray, List.set_cons_zero, List.set_cons_succ, List.getElem_toArray, List.getElem_cons_zero, List.getElem_cons_succ])
                refine wpAnyH_ready (rs := [13]) (by kernel_rfl) (by simp) ?_
                refine AllReadyH.cons rfl (fun K hK => ?_) AllReadyH.nil
                go_simp
                go_at_call 46
                refine (get_any i i6 pc _ p1 p2).mono ?_
                rintro e N7 ⟨v, rfl, hro, bN7⟩
                obtain ⟨A, c, rfl, RA_7⟩ := hro.slice
                have zN7 : P0.heap.size ≤ N7.heap.size := Nat.le_trans zN6 bN7.size
                have sN7 := bN7.size
                have NB_7 := NB_6.next bN7
                have IB_7 := IB_6.next bN7
                have AB_7 := AB_6.next bN7
                have G_7 := turn_next G_6 bN7
                have D_7 := D_6.next bN7
                go_wp2_with fail
                refine hK.out _ _ ⟨(names_get NB_7 i6), ((IB_7.cell j).trans hpc)⟩ (fun hHeld2 => ?_)
                clear hK K hHeld
                have hHeld := hHeld2
                clear hHeld2
                try simp only [Act.put, List.setIfInBounds_toArray, List.set_cons_zero, List.set_cons_succ, List.getElem_toArray, List.getElem_cons_zero, List.getElem_cons_succ]
                (refine wpAnyH_take (i := 14) (v := ?_) rfl (by kernel_rfl) (by kernel_rfl) (by kernel_rfl) (fun _ _ _ h => h) (Or.inl ⟨by rfl, ?_⟩) (by assumption) ?_; rotate_left 1; (focus (intro w' hSw; (try dsimp only at hSw); go_simp; (try with_reducible rfl); done)); try simp only [Act.put, List.setIfInBounds_toArray, List.set_cons_zero, List.set_cons_succ, List.getElem_toArray, List.getElem_cons_zero, List.getElem_cons_succ])
                (refine wpAnyH_take (i := 15) (v := ?_) rfl (by kernel_rfl) (by kernel_rfl) (by kernel_rfl) (fun _ _ _ h => h) (Or.inl ⟨by rfl, ?_⟩) (by assumption) ?_; rotate_left 1; (focus (intro w' hSw; (try dsimp only at hSw); go_simp; (try with_reducible rfl); done)); try simp only [Act.put, List.setIfInBounds_toArray, List.set_cons_zero, List.set_cons_succ, List.getElem_toArray, List.getElem_cons_zero, List.getElem_cons_succ])
                (refine wpAnyH_take (i := 16) (v := ?_) rfl (by kernel_rfl) (by kernel_rfl) (by kernel_rfl) (fun _ _ _ h => h) (Or.inl ⟨by rfl, ?_⟩) (by assumption) ?_; rotate_left 1; (focus (intro w' hSw; (try dsimp only at hSw); go_simp; (try with_reducible rfl); done)); try simp only [Act.put, List.setIfInBounds_toArray, List.set_cons_zero, List.set_cons_succ, List.getElem_toArray, List.getElem_cons_zero, List.getElem_cons_succ])
                have q0 := AB_7.cell 0
                have q1 := AB_7.cell 1
                have q2 := AB_7.cell 2
                have y0 := AB_7.frozen 0
                have y1 := AB_7.frozen 1
                have y2 := AB_7.frozen 2
                simp at q0 q1 q2
                have Z := Lib.hid (pre_close (P0 := P0) (N := N7) (g := N4.heap.size) (dk := dk) (i := i) (x := Sh.pcF pc) (lo := N6.heap.size) (hi := N7.heap.size) i6 (pct_share p1 p2).1 (pct_share p1 p2).2.1 AB_7 G_7 D_7 RA_7 zN4 (by assumption) (by omega) (by omega) (by omega))
                refine wpAnyH_ready (rs := [18]) (by kernel_rfl) (by simp) ?_
                refine AllReadyH.cons rfl (fun K hK => ?_) AllReadyH.nil
                go_simp
                try simp only [y0, y1, y2, Bool.false_eq_true, if_false]
                go_wp2_with fail
                refine hK.out _ _ ?_ (fun hHeld2 => ?_)
                · exact ⟨cell_store3 hHeld.1 (by omega) _ _ _, cell_store3 hHeld.2 (by omega) _ _ _⟩
                clear hK K hHeld
                have hHeld := hHeld2
                clear hHeld2
                try simp only [Act.put, List.setIfInBounds_toArray, List.set_cons_zero, List.set_cons_succ, List.getElem_toArray, List.getElem_cons_zero, List.getElem_cons_succ]
                (refine wpAnyH_take (i := 19) (v := ?_) rfl (by kernel_rfl) (by kernel_rfl) (by kernel_rfl) (fun _ _ _ h => h) (Or.inl ⟨by rfl, ?_⟩) (by assumption) ?_; rotate_left 1; (focus (intro w' hSw; (try dsimp only at hSw); go_simp; (try with_reducible rfl); done)); try simp only [Act.put, List.setIfInBounds_toArray, List.set_cons_zero, List.set_cons_succ, List.getElem_toArray, List.getElem_cons_zero, List.getElem_cons_succ])
                refine wpAnyH_done (by kernel_rfl) ?_ _
                clear hHeld
                go_wp2
                go_meet
                exact ⟨_, rfl, rfl, Z.out⟩
            · go_simp
              go_at_call 26
              refine (next_any dk 6 _ (by decide) (by decide) D_3).mono ?_
              rintro e N4 ⟨vj, rfl, vj0, vj1, D_4, gN4⟩
              have zN4 : P0.heap.size ≤ N4.heap.size := Nat.le_trans zN3 gN4.size
              have sN4 := gN4.size
              have NB_4 := NB_3.turn gN4 (by omega)
              have G_4 := turn_trans G_3 gN4
              obtain ⟨j, rfl⟩ := Int.eq_ofNat_of_zero_le vj0
              have j6 : j < 6 := by omega
              have j7 : 0 ≤ (j : Int) ∧ (j : Int) < 6 := by omega
              clear vj0 vj1
              go_wp2_with fail
              refine hK.out _ _ (names_get NB_4 i6) (fun hHeld2 => ?_)
              clear hK K hHeld
              have hHeld := hHeld2
              clear hHeld2
              try simp only [Act.put, List.setIfInBounds_toArray, List.set_cons_zero, List.set_cons_succ, List.getElem_toArray, List.getElem_cons_zero, List.getElem_cons_succ]
              refine wpAnyH_ready (rs := [8, 17]) (by kernel_rfl) (by simp) ?_
              refine AllReadyH.cons rfl (fun K hK => ?_) (AllReadyH.cons rfl (fun K hK => ?_) AllReadyH.nil)
              · go_simp
                obtain ⟨N5, hN5⟩ : ∃ W', W' = World.alloc N4 (.cells #[.int .i64 10, .int .i64 15, .int .i64 25, .int .i64 30, .int .i64 50, .int .i64 (1 + u)] 3) := ⟨_, rfl⟩
                rw [← hN5]
                have bN5 : Below N4.heap.size N4 N5 := by rw [hN5]; exact (Below.refl _ _).alloc (Nat.le_refl _) _
                have IB_5 : Blk N5 N4.heap.size 3 #[.int .i64 10, .int .i64 15, .int .i64 25, .int .i64 30, .int .i64 50, .int .i64 (1 + u)] := by rw [hN5]; exact Blk.new _ _ _
                clear hN5
                have zN5 : P0.heap.size ≤ N5.heap.size := Nat.le_trans zN4 bN5.size
                have sN5 := bN5.size
                have NB_5 := NB_4.next bN5
                have G_5 := turn_next G_4 bN5
                have D_5 := D_4.next bN5
                have il := IB_5.lt
                refine hK.out _ _ (names_get NB_5 i6) (fun hHeld2 => ?_)
                clear hK K hHeld
                have hHeld := hHeld2
                clear hHeld2
                try simp only [Act.put, List.setIfInBounds_toArray, List.set_cons_zero, List.set_cons_succ, List.getElem_toArray, List.getElem_cons_zero, List.getElem_cons_succ]
                obtain ⟨pc, hpc, p1, p2⟩ := ints_get (u := u) u0 u1 j6
                have hHeld2 := And.intro hHeld ((IB_5.cell j).trans hpc)
                refine wpAnyH_mono (S' := fun w' => w'.cell? ⟨P0.heap.size, i, none⟩ = some (.string (preN i)) ∧ w'.cell? ⟨N4.heap.size, j, none⟩ = some (.int .i64 pc)) (fun _ h => h.1) _ _ _ _ ?_
                clear hHeld
                have hHeld := hHeld2
                clear hHeld2
                (refine wpAnyH_take (i := 11) (v := ?_) rfl (by kernel_rfl) (by kernel_rfl) (by kernel_rfl) (fun _ _ _ h => h) (Or.inl ⟨by rfl, ?_⟩) (by assumption) ?_; rotate_left 1; (focus (intro w' hSw; (try dsimp only at hSw); go_simp; (try with_reducible rfl); done)); try simp only [Act.put, List.setIfInBounds_toArray, List.set_cons_zero, List.set_cons_succ, List.getElem_toArray, List.getElem_cons_zero, List.getElem_cons_succ])
                (refine wpAnyH_take (i := 12) (v := ?_) rfl (by kernel_rfl) (by kernel_rfl) (by kernel_rfl) (fun _ _ _ h => h) (Or.inl ⟨by rfl, ?_⟩) (by assumption) ?_; rotate_left 1; (focus (intro w' hSw; (try dsimp only at hSw); go_simp; (try with_reducible rfl); done)); try simp only [Act.put, List.setIfInBounds_toArray, List.set_cons_zero, List.set_cons_succ, List.getElem_toArray, List.getElem_cons_zero, List.getElem_cons_succ])
                refine wpAnyH_ready (rs := [13, 17]) (by kernel_rfl) (by simp) ?_
                refine AllReadyH.cons rfl (fun K hK => ?_) (AllReadyH.cons rfl (fun K hK => ?_) AllReadyH.nil)
                · go_simp
                  go_at_call 46
                  refine (get_any i i6 pc _ p1 p2).mono ?_
                  rintro e N6 ⟨v, rfl, hro, bN6⟩
                  obtain ⟨A, c, rfl, RA_6⟩ := hro.slice
                  have zN6 : P0.heap.size ≤ N6.heap.size := Nat.le_trans zN5 bN6.size
                  have sN6 := bN6.size
                  have NB_6 := NB_5.next bN6
                  have IB_6 := IB_5.next bN6
                  have G_6 := turn_next G_5 bN6
                  have D_6 := D_5.next bN6
                  go_wp2_with fail
                  refine hK.out _ _ ⟨(names_get NB_6 i6), ((IB_6.cell j).trans hpc)⟩ (fun hHeld2 => ?_)
                  clear hK K hHeld
                  have hHeld := hHeld2
                  clear hHeld2
                  try simp only [Act.put, List.setIfInBounds_toArray, List.set_cons_zero, List.set_cons_succ, List.getElem_toArray, List.getElem_cons_zero, List.getElem_cons_succ]
                  (refine wpAnyH_take (i := 14) (v := ?_) rfl (by kernel_rfl) (by kernel_rfl) (by kernel_rfl) (fun _ _ _ h => h) (Or.inl ⟨by rfl, ?_⟩) (by assumption) ?_; rotate_left 1; (focus (intro w' hSw; (try dsimp only at hSw); go_simp; (try with_reducible rfl); done)); try simp only [Act.put, List.setIfInBounds_toArray, List.set_cons_zero, List.set_cons_succ, List.getElem_toArray, List.getElem_cons_zero, List.getElem_cons_succ])
                  (refine wpAnyH_take (i := 15) (v := ?_) rfl (by kernel_rfl) (by kernel_rfl) (by kernel_rfl) (fun _ _ _ h => h) (Or.inl ⟨by rfl, ?_⟩) (by assumption) ?_; rotate_left 1; (focus (intro w' hSw; (try dsimp only at hSw); go_simp; (try with_reducible rfl); done)); try simp only [Act.put, List.setIfInBounds_toArray, List.set_cons_zero, List.set_cons_succ, List.getElem_toArray, List.getElem_cons_zero, List.getElem_cons_succ])
                  (refine wpAnyH_take (i := 16) (v := ?_) rfl (by kernel_rfl) (by kernel_rfl) (by kernel_rfl) (fun _ _ _ h => h) (Or.inl ⟨by rfl, ?_⟩) (by assumption) ?_; rotate_left 1; (focus (intro w' hSw; (try dsimp only at hSw); go_simp; (try with_reducible rfl); done)); try simp only [Act.put, List.setIfInBounds_toArray, List.set_cons_zero, List.set_cons_succ, List.getElem_toArray, List.getElem_cons_zero, List.getElem_cons_succ])
                  refine wpAnyH_ready (rs := [17]) (by kernel_rfl) (by simp) ?_
                  refine AllReadyH.cons rfl (fun K hK => ?_) AllReadyH.nil
                  go_simp
                  obtain ⟨N7, hN7⟩ : ∃ W', W' = World.alloc N6 (.cells #[.string { data := #[] }, .slice none 0 0, .int .i64 0] 27) := ⟨_, rfl⟩
                  rw [← hN7]
                  have bN7 : Below N6.heap.size N6 N7 := by rw [hN7]; exact (Below.refl _ _).alloc (Nat.le_refl _) _
                  have AB_7 : Blk N7 N6.heap.size 27 #[.string { data := #[] }, .slice none 0 0, .int .i64 0] := by rw [hN7]; exact Blk.new _ _ _
                  clear hN7
                  have zN7 : P0.heap.size ≤ N7.heap.size := Nat.le_trans zN6 bN7.size
                  have sN7 := bN7.size
                  have NB_7 := NB_6.next bN7
                  have IB_7 := IB_6.next bN7
                  have G_7 := turn_next G_6 bN7
                  have D_7 := D_6.next bN7
                  have RA_7 := RA_6.keep (w' := N7) (fun b o hb => bN7.cell (p := ⟨b, o, none⟩) hb.2)
                  have al := AB_7.lt
                  refine hK.out _ _ ⟨(names_get NB_7 i6), ((IB_7.cell j).trans hpc)⟩ (fun hHeld2 => ?_)
                  clear hK K hHeld
                  have hHeld := hHeld2
                  clear hHeld2
                  try simp only [Act.put, List.setIfInBounds_toArray, List.set_cons_zero, List.set_cons_succ, List.getElem_toArray, List.getElem_cons_zero, List.getElem_cons_succ]
                  have q0 := AB_7.cell 0
                  have q1 := AB_7.cell 1
                  have q2 := AB_7.cell 2
                  have y0 := AB_7.frozen 0
                  have y1 := AB_7.frozen 1
                  have y2 := AB_7.frozen 2
                  simp at q0 q1 q2
                  have Z := Lib.hid (pre_close (P0 := P0) (N := N7) (g := N6.heap.size) (dk := dk) (i := i) (x := Sh.pcF pc) (lo := N5.heap.size) (hi := N6.heap.size) i6 (pct_share p1 p2).1 (pct_share p1 p2).2.1 AB_7 G_7 D_7 RA_7 zN6 (by assumption) (by omega) (by omega) (by omega))
                  refine wpAnyH_ready (rs := [18]) (by kernel_rfl) (by simp) ?_
                  refine AllReadyH.cons rfl (fun K hK => ?_) AllReadyH.nil
                  go_simp
                  try simp only [y0, y1, y2, Bool.false_eq_true, if_false]
                  go_wp2_with fail
                  refine hK.out _ _ ?_ (fun hHeld2 => ?_)
                  · exact ⟨cell_store3 hHeld.1 (by omega) _ _ _, cell_store3 hHeld.2 (by omega) _ _ _⟩
                  clear hK K hHeld
                  have hHeld := hHeld2
                  clear hHeld2
                  try simp only [Act.put, List.setIfInBounds_toArray, List.set_cons_zero, List.set_cons_succ, List.getElem_toArray, List.getElem_cons_zero, List.getElem_cons_succ]
                  (refine wpAnyH_take (i := 19) (v := ?_) rfl (by kernel_rfl) (by kernel_rfl) (by kernel_rfl) (fun _ _ _ h => h) (Or.inl ⟨by rfl, ?_⟩) (by assumption) ?_; rotate_left 1; (focus (intro w' hSw; (try dsimp only at hSw); go_simp; (try with_reducible rfl); done)); try simp only [Act.put, List.setIfInBounds_toArray, List.set_cons_zero, List.set_cons_succ, List.getElem_toArray, List.getElem_cons_zero, List.getElem_cons_succ])
                  refine wpAnyH_done (by kernel_rfl) ?_ _
                  clear hHeld
                  go_wp2
                  go_meet
                  exact ⟨_, rfl, rfl, Z.out⟩
                · go_simp
                  obtain ⟨N6, hN6⟩ : ∃ W', W' = World.alloc N5 (.cells #[.string { data := #[] }, .slice none 0 0, .int .i64 0] 27) := ⟨_, rfl⟩
                  rw [← hN6]
                  have bN6 : Below N5.heap.size N5 N6 := by rw [hN6]; exact (Below.refl _ _).alloc (Nat.le_refl _) _
                  have AB_6 : Blk N6 N5.heap.size 27 #[.string { data := #[] }, .slice none 0 0, .int .i64 0] := by rw [hN6]; exact Blk.new _ _ _
                  clear hN6
                  have zN6 : P0.heap.size ≤ N6.heap.size := Nat.le_trans zN5 bN6.size
                  have sN6 := bN6.size
                  have NB_6 := NB_5.next bN6
                  have IB_6 := IB_5.next bN6
                  have G_6 := turn_next G_5 bN6
                  have D_6 := D_5.next bN6
                  have al := AB_6.lt
                  refine hK.out _ _ ⟨(names_get NB_6 i6), ((IB_6.cell j).trans hpc)⟩ (fun hHeld2 => ?_)
                  clear hK K hHeld
                  have hHeld := hHeld2
                  clear hHeld2
                  try simp only [Act.put, List.setIfInBounds_toArray, List.set_cons_zero, List.set_cons_succ, List.getElem_toArray, List.getElem_cons_zero, List.getElem_cons_succ]
                  refine wpAnyH_ready (rs := [13]) (by kernel_rfl) (by simp) ?_
                  refine AllReadyH.cons rfl (fun K hK => ?_) AllReadyH.nil
                  go_simp
                  go_at_call 46
                  refine (get_any i i6 pc _ p1 p2).mono ?_
                  rintro e N7 ⟨v, rfl, hro, bN7⟩
                  obtain ⟨A, c, rfl, RA_7⟩ := hro.slice
                  have zN7 : P0.heap.size ≤ N7.heap.size := Nat.le_trans zN6 bN7.size
                  have sN7 := bN7.size
                  have NB_7 := NB_6.next bN7
                  have IB_7 := IB_6.next bN7
                  have AB_7 := AB_6.next bN7
                  have G_7 := turn_next G_6 bN7
                  have D_7 := D_6.next bN7
                  go_wp2_with fail
                  refine hK.out _ _ ⟨(names_get NB_7 i6), ((IB_7.cell j).trans hpc)⟩ (fun hHeld2 => ?_)
                  clear hK K hHeld
                  have hHeld := hHeld2
                  clear hHeld2
                  try simp only [Act.put, List.setIfInBounds_toArray, List.set_cons_zero, List.set_cons_succ, List.getElem_toArray, List.getElem_cons_zero, List.getElem_cons_succ]
                  (refine wpAnyH_take (i := 14) (v := ?_) rfl (by kernel_rfl) (by kernel_rfl) (by kernel_rfl) (fun _ _ _ h => h) (Or.inl ⟨by rfl, ?_⟩) (by assumption) ?_; rotate_left 1; (focus (intro w' hSw; (try dsimp only at hSw); go_simp; (try with_reducible rfl); done)); try simp only [Act.put, List.setIfInBounds_toArray, List.set_cons_zero, List.set_cons_succ, List.getElem_toArray, List.getElem_cons_zero, List.getElem_cons_succ])
                  (refine wpAnyH_take (i := 15) (v := ?_) rfl (by kernel_rfl) (by kernel_rfl) (by kernel_rfl) (fun _ _ _ h => h) (Or.inl ⟨by rfl, ?_⟩) (by assumption) ?_; rotate_left 1; (focus (intro w' hSw; (try dsimp only at hSw); go_simp; (try with_reducible rfl); done)); try simp only [Act.put, List.setIfInBounds_toArray, List.set_cons_zero, List.set_cons_succ, List.getElem_toArray, List.getElem_cons_zero, List.getElem_cons_succ])
                  (refine wpAnyH_take (i := 16) (v := ?_) rfl (by kernel_rfl) (by kernel_rfl) (by kernel_rfl) (fun _ _ _ h => h) (Or.inl ⟨by rfl, ?_⟩) (by assumption) ?_; rotate_left 1; (focus (intro w' hSw; (try dsimp only at hSw); go_simp; (try with_reducible rfl); done)); try simp only [Act.put, List.setIfInBounds_toArray, List.set_cons_zero, List.set_cons_succ, List.getElem_toArray, List.getElem_cons_zero, List.getElem_cons_succ])
                  have q0 := AB_7.cell 0
                  have q1 := AB_7.cell 1
                  have q2 := AB_7.cell 2
                  have y0 := AB_7.frozen 0
                  have y1 := AB_7.frozen 1
                  have y2 := AB_7.frozen 2
                  simp at q0 q1 q2
                  have Z := Lib.hid (pre_close (P0 := P0) (N := N7) (g := N5.heap.size) (dk := dk) (i := i) (x := Sh.pcF pc) (lo := N6.heap.size) (hi := N7.heap.size) i6 (pct_share p1 p2).1 (pct_share p1 p2).2.1 AB_7 G_7 D_7 RA_7 zN5 (by assumption) (by omega) (by omega) (by omega))
                  refine wpAnyH_ready (rs := [18]) (by kernel_rfl) (by simp) ?_
                  refine AllReadyH.cons rfl (fun K hK => ?_) AllReadyH.nil
                  go_simp
                  try simp only [y0, y1, y2, Bool.false_eq_true, if_false]
                  go_wp2_with fail
                  refine hK.out _ _ ?_ (fun hHeld2 => ?_)
                  · exact ⟨cell_store3 hHeld.1 (by omega) _ _ _, cell_store3 hHeld.2 (by omega) _ _ _⟩
                  clear hK K hHeld
                  have hHeld := hHeld2
                  clear hHeld2
                  try simp only [Act.put, List.setIfInBounds_toArray, List.set_cons_zero, List.set_cons_succ, List.getElem_toArray, List.getElem_cons_zero, List.getElem_cons_succ]
                  (refine wpAnyH_take (i := 19) (v := ?_) rfl (by kernel_rfl) (by kernel_rfl) (by kernel_rfl) (fun _ _ _ h => h) (Or.inl ⟨by rfl, ?_⟩) (by assumption) ?_; rotate_left 1; (focus (intro w' hSw; (try dsimp only at hSw); go_simp; (try with_reducible rfl); done)); try simp only [Act.put, List.setIfInBounds_toArray, List.set_cons_zero, List.set_cons_succ, List.getElem_toArray, List.getElem_cons_zero, List.getElem_cons_succ])
                  refine wpAnyH_done (by kernel_rfl) ?_ _
                  clear hHeld
                  go_wp2
                  go_meet
                  exact ⟨_, rfl, rfl, Z.out⟩
              · go_simp
                obtain ⟨N5, hN5⟩ : ∃ W', W' = World.alloc N4 (.cells #[.string { data := #[] }, .slice none 0 0, .int .i64 0] 27) := ⟨_, rfl⟩
                rw [← hN5]
                have bN5 : Below N4.heap.size N4 N5 := by rw [hN5]; exact (Below.refl _ _).alloc (Nat.le_refl _) _
                have AB_5 : Blk N5 N4.heap.size 27 #[.string { data := #[] }, .slice none 0 0, .int .i64 0] := by rw [hN5]; exact Blk.new _ _ _
                clear hN5
                have zN5 : P0.heap.size ≤ N5.heap.size := Nat.le_trans zN4 bN5.size
                have sN5 := bN5.size
                have NB_5 := NB_4.next bN5
                have G_5 := turn_next G_4 bN5
                have D_5 := D_4.next bN5
                have al := AB_5.lt
                refine hK.out _ _ (names_get NB_5 i6) (fun hHeld2 => ?_)
                clear hK K hHeld
                have hHeld := hHeld2
                clear hHeld2
                try simp only [Act.put, List.setIfInBounds_toArray, List.set_cons_zero, List.set_cons_succ, List.getElem_toArray, List.getElem_cons_zero, List.getElem_cons_succ]
                refine wpAnyH_ready (rs := [8]) (by kernel_rfl) (by simp) ?_
                refine AllReadyH.cons rfl (fun K hK => ?_) AllReadyH.nil
                go_simp
                obtain ⟨N6, hN6⟩ : ∃ W', W' = World.alloc N5 (.cells #[.int .i64 10, .int .i64 15, .int .i64 25, .int .i64 30, .int .i64 50, .int .i64 (1 + u)] 3) := ⟨_, rfl⟩
                rw [← hN6]
                have bN6 : Below N5.heap.size N5 N6 := by rw [hN6]; exact (Below.refl _ _).alloc (Nat.le_refl _) _
                have IB_6 : Blk N6 N5.heap.size 3 #[.int .i64 10, .int .i64 15, .int .i64 25, .int .i64 30, .int .i64 50, .int .i64 (1 + u)] := by rw [hN6]; exact Blk.new _ _ _
                clear hN6
                have zN6 : P0.heap.size ≤ N6.heap.size := Nat.le_trans zN5 bN6.size
                have sN6 := bN6.size
                have NB_6 := NB_5.next bN6
                have AB_6 := AB_5.next bN6
                have G_6 := turn_next G_5 bN6
                have D_6 := D_5.next bN6
                have il := IB_6.lt
                refine hK.out _ _ (names_get NB_6 i6) (fun hHeld2 => ?_)
                clear hK K hHeld
                have hHeld := hHeld2
                clear hHeld2
                try simp only [Act.put, List.setIfInBounds_toArray, List.set_cons_zero, List.set_cons_succ, List.getElem_toArray, List.getElem_cons_zero, List.getElem_cons_succ]
                obtain ⟨pc, hpc, p1, p2⟩ := ints_get (u := u) u0 u1 j6
                have hHeld2 := And.intro hHeld ((IB_6.cell j).trans hpc)
                refine wpAnyH_mono (S' := fun w' => w'.cell? ⟨P0.heap.size, i, none⟩ = some (.string (preN i)) ∧ w'.cell? ⟨N5.heap.size, j, none⟩ = some (.int .i64 pc)) (fun _ h => h.1) _ _ _ _ ?_
                clear hHeld
                have hHeld := hHeld2
                clear hHeld2
                (refine wpAnyH_take (i := 11) (v := ?_) rfl (by kernel_rfl) (by kernel_rfl) (by kernel_rfl) (fun _ _ _ h => h) (Or.inl ⟨by rfl, ?_⟩) (by assumption) ?_; rotate_left 1; (focus (intro w' hSw; (try dsimp only at hSw); go_simp; (try with_reducible rfl); done)); try simp only [Act.put, List.setIfInBounds_toArray, List.set_cons_zero, List.set_cons_succ, List.getElem_toArray, List.getElem_cons_zero, List.getElem_cons_succ])
                (refine wpAnyH_take (i := 12) (v := ?_) rfl (by kernel_rfl) (by kernel_rfl) (by kernel_rfl) (fun _ _ _ h => h) (Or.inl ⟨by rfl, ?_⟩) (by assumption) ?_; rotate_left 1; (focus (intro w' hSw; (try dsimp only at hSw); go_simp; (try with_reducible rfl); done)); try simp only [Act.put, List.setIfInBounds_toArray, List.set_cons_zero, List.set_cons_succ, List.getElem_toArray, List.getElem_cons_zero, List.getElem_cons_succ])
                refine wpAnyH_ready (rs := [13]) (by kernel_rfl) (by simp) ?_
                refine AllReadyH.cons rfl (fun K hK => ?_) AllReadyH.nil
                go_simp
                go_at_call 46
                refine (get_any i i6 pc _ p1 p2).mono ?_
                rintro e N7 ⟨v, rfl, hro, bN7⟩
                obtain ⟨A, c, rfl, RA_7⟩ := hro.slice
                have zN7 : P0.heap.size ≤ N7.heap.size := Nat.le_trans zN6 bN7.size
                have sN7 := bN7.size
                have NB_7 := NB_6.next bN7
                have IB_7 := IB_6.next bN7
                have AB_7 := AB_6.next bN7
                have G_7 := turn_next G_6 bN7
                have D_7 := D_6.next bN7
                go_wp2_with fail
                refine hK.out _ _ ⟨(names_get NB_7 i6), ((IB_7.cell j).trans hpc)⟩ (fun hHeld2 => ?_)
                clear hK K hHeld
                have hHeld := hHeld2
                clear hHeld2
                try simp only [Act.put, List.setIfInBounds_toArray, List.set_cons_zero, List.set_cons_succ, List.getElem_toArray, List.getElem_cons_zero, List.getElem_cons_succ]
                (refine wpAnyH_take (i := 14) (v := ?_) rfl (by kernel_rfl) (by kernel_rfl) (by kernel_rfl) (fun _ _ _ h => h) (Or.inl ⟨by rfl, ?_⟩) (by assumption) ?_; rotate_left 1; (focus (intro w' hSw; (try dsimp only at hSw); go_simp; (try with_reducible rfl); done)); try simp only [Act.put, List.setIfInBounds_toArray, List.set_cons_zero, List.set_cons_succ, List.getElem_toArray, List.getElem_cons_zero, List.getElem_cons_succ])
                (refine wpAnyH_take (i := 15) (v := ?_) rfl (by kernel_rfl) (by kernel_rfl) (by kernel_rfl) (fun _ _ _ h => h) (Or.inl ⟨by rfl, ?_⟩) (by assumption) ?_; rotate_left 1; (focus (intro w' hSw; (try dsimp only at hSw); go_simp; (try with_reducible rfl); done)); try simp only [Act.put, List.setIfInBounds_toArray, List.set_cons_zero, List.set_cons_succ, List.getElem_toArray, List.getElem_cons_zero, List.getElem_cons_succ])
                (refine wpAnyH_take (i := 16) (v := ?_) rfl (by kernel_rfl) (by kernel_rfl) (by kernel_rfl) (fun _ _ _ h => h) (Or.inl ⟨by rfl, ?_⟩) (by assumption) ?_; rotate_left 1; (focus (intro w' hSw; (try dsimp only at hSw); go_simp; (try with_reducible rfl); done)); try simp only [Act.put, List.setIfInBounds_toArray, List.set_cons_zero, List.set_cons_succ, List.getElem_toArray, List.getElem_cons_zero, List.getElem_cons_succ])
                have q0 := AB_7.cell 0
                have q1 := AB_7.cell 1
                have q2 := AB_7.cell 2
                have y0 := AB_7.frozen 0
                have y1 := AB_7.frozen 1
                have y2 := AB_7.frozen 2
                simp at q0 q1 q2
                have Z := Lib.hid (pre_close (P0 := P0) (N := N7) (g := N4.heap.size) (dk := dk) (i := i) (x := Sh.pcF pc) (lo := N6.heap.size) (hi := N7.heap.size) i6 (pct_share p1 p2).1 (pct_share p1 p2).2.1 AB_7 G_7 D_7 RA_7 zN4 (by assumption) (by omega) (by omega) (by omega))
                refine wpAnyH_ready (rs := [18]) (by kernel_rfl) (by simp) ?_
                refine AllReadyH.cons rfl (fun K hK => ?_) AllReadyH.nil
                go_simp
                try simp only [y0, y1, y2, Bool.false_eq_true, if_false]
                go_wp2_with fail
                refine hK.out _ _ ?_ (fun hHeld2 => ?_)
                · exact ⟨cell_store3 hHeld.1 (by omega) _ _ _, cell_store3 hHeld.2 (by omega) _ _ _⟩
                clear hK K hHeld
                have hHeld := hHeld2
                clear hHeld2
                try simp only [Act.put, List.setIfInBounds_toArray, List.set_cons_zero, List.set_cons_succ, List.getElem_toArray, List.getElem_cons_zero, List.getElem_cons_succ]
                (refine wpAnyH_take (i := 19) (v := ?_) rfl (by kernel_rfl) (by kernel_rfl) (by kernel_rfl) (fun _ _ _ h => h) (Or.inl ⟨by rfl, ?_⟩) (by assumption) ?_; rotate_left 1; (focus (intro w' hSw; (try dsimp only at hSw); go_simp; (try with_reducible rfl); done)); try simp only [Act.put, List.setIfInBounds_toArray, List.set_cons_zero, List.set_cons_succ, List.getElem_toArray, List.getElem_cons_zero, List.getElem_cons_succ])
                refine wpAnyH_done (by kernel_rfl) ?_ _
                clear hHeld
                go_wp2
                go_meet
                exact ⟨_, rfl, rfl, Z.out⟩
            · go_simp
              obtain ⟨N4, hN4⟩ : ∃ W', W' = World.alloc N3 (.cells #[.string { data := #[] }, .slice none 0 0, .int .i64 0] 27) := ⟨_, rfl⟩
              rw [← hN4]
              have bN4 : Below N3.heap.size N3 N4 := by rw [hN4]; exact (Below.refl _ _).alloc (Nat.le_refl _) _
              have AB_4 : Blk N4 N3.heap.size 27 #[.string { data := #[] }, .slice none 0 0, .int .i64 0] := by rw [hN4]; exact Blk.new _ _ _
              clear hN4
              have zN4 : P0.heap.size ≤ N4.heap.size := Nat.le_trans zN3 bN4.size
              have sN4 := bN4.size
              have NB_4 := NB_3.next bN4
              have G_4 := turn_next G_3 bN4
              have D_4 := D_3.next bN4
              have al := AB_4.lt
              refine hK.out _ _ (names_get NB_4 i6) (fun hHeld2 => ?_)
              clear hK K hHeld
              have hHeld := hHeld2
              clear hHeld2
              try simp only [Act.put, List.setIfInBounds_toArray, List.set_cons_zero, List.set_cons_succ, List.getElem_toArray, List.getElem_cons_zero, List.getElem_cons_succ]
              refine wpAnyH_ready (rs := [8, 10]) (by kernel_rfl) (by simp) ?_
              refine AllReadyH.cons rfl (fun K hK => ?_) (AllReadyH.cons rfl (fun K hK => ?_) AllReadyH.nil)
              · go_simp
                obtain ⟨N5, hN5⟩ : ∃ W', W' = World.alloc N4 (.cells #[.int .i64 10, .int .i64 15, .int .i64 25, .int .i64 30, .int .i64 50, .int .i64 (1 + u)] 3) := ⟨_, rfl⟩
                rw [← hN5]
                have bN5 : Below N4.heap.size N4 N5 := by rw [hN5]; exact (Below.refl _ _).alloc (Nat.le_refl _) _
                have IB_5 : Blk N5 N4.heap.size 3 #[.int .i64 10, .int .i64 15, .int .i64 25, .int .i64 30, .int .i64 50, .int .i64 (1 + u)] := by rw [hN5]; exact Blk.new _ _ _
                clear hN5
                have zN5 : P0.heap.size ≤ N5.heap.size := Nat.le_trans zN4 bN5.size
                have sN5 := bN5.size
                have NB_5 := NB_4.next bN5
                have AB_5 := AB_4.next bN5
                have G_5 := turn_next G_4 bN5
                have D_5 := D_4.next bN5
                have il := IB_5.lt
                refine hK.out _ _ (names_get NB_5 i6) (fun hHeld2 => ?_)
                clear hK K hHeld
                have hHeld := hHeld2
                clear hHeld2
                try simp only [Act.put, List.setIfInBounds_toArray, List.set_cons_zero, List.set_cons_succ, List.getElem_toArray, List.getElem_cons_zero, List.getElem_cons_succ]
                refine wpAnyH_ready (rs := [10]) (by kernel_rfl) (by simp) ?_
                refine AllReadyH.cons rfl (fun K hK => ?_) AllReadyH.nil
                go_simp
                go_at_call 26
                refine (next_any dk 6 _ (by decide) (by decide) D_5).mono ?_
                rintro e N6 ⟨vj, rfl, vj0, vj1, D_6, gN6⟩
                have zN6 : P0.heap.size ≤ N6.heap.size := Nat.le_trans zN5 gN6.size
                have sN6 := gN6.size
                have NB_6 := NB_5.turn gN6 (by omega)
                have IB_6 := IB_5.turn gN6 (by omega)
                have AB_6 := AB_5.turn gN6 (by omega)
                have G_6 := turn_trans G_5 gN6
                obtain ⟨j, rfl⟩ := Int.eq_ofNat_of_zero_le vj0
                have j6 : j < 6 := by omega
                have j7 : 0 ≤ (j : Int) ∧ (j : Int) < 6 := by omega
                clear vj0 vj1
                go_wp2_with fail
                refine hK.out _ _ (names_get NB_6 i6) (fun hHeld2 => ?_)
                clear hK K hHeld
                have hHeld := hHeld2
                clear hHeld2
                try simp only [Act.put, List.setIfInBounds_toArray, List.set_cons_zero, List.set_cons_succ, List.getElem_toArray, List.getElem_cons_zero, List.getElem_cons_succ]
                obtain ⟨pc, hpc, p1, p2⟩ := ints_get (u := u) u0 u1 j6
                have hHeld2 := And.intro hHeld ((IB_6.cell j).trans hpc)
                refine wpAnyH_mono (S' := fun w' => w'.cell? ⟨P0.heap.size, i, none⟩ = some (.string (preN i)) ∧ w'.cell? ⟨N4.heap.size, j, none⟩ = some (.int .i64 pc)) (fun _ h => h.1) _ _ _ _ ?_
                clear hHeld
                have hHeld := hHeld2
                clear hHeld2
                (refine wpAnyH_take (i := 11) (v := ?_) rfl (by kernel_rfl) (by kernel_rfl) (by kernel_rfl) (fun _ _ _ h => h) (Or.inl ⟨by rfl, ?_⟩) (by assumption) ?_; rotate_left 1; (focus (intro w' hSw; (try dsimp only at hSw); go_simp; (try with_reducible rfl); done)); try simp only [Act.put, List.setIfInBounds_toArray, List.set_cons_zero, List.set_cons_succ, List.getElem_toArray, List.getElem_cons_zero, List.getElem_cons_succ])
                (refine wpAnyH_take (i := 12) (v := ?_) rfl (by kernel_rfl) (by kernel_rfl) (by kernel_rfl) (fun _ _ _ h => h) (Or.inl ⟨by rfl, ?_⟩) (by assumption) ?_; rotate_left 1; (focus (intro w' hSw; (try dsimp only at hSw); go_simp; (try with_reducible rfl); done)); try simp only [Act.put, List.setIfInBounds_toArray, List.set_cons_zero, List.set_cons_succ, List.getElem_toArray, List.getElem_cons_zero, List.getElem_cons_succ])
                refine wpAnyH_ready (rs := [13]) (by kernel_rfl) (by simp) ?_
                refine AllReadyH.cons rfl (fun K hK => ?_) AllReadyH.nil
                go_simp
                go_at_call 46
                refine (get_any i i6 pc _ p1 p2).mono ?_
                rintro e N7 ⟨v, rfl, hro, bN7⟩
                obtain ⟨A, c, rfl, RA_7⟩ := hro.slice
                have zN7 : P0.heap.size ≤ N7.heap.size := Nat.le_trans zN6 bN7.size
                have sN7 := bN7.size
                have NB_7 := NB_6.next bN7
                have IB_7 := IB_6.next bN7
                have AB_7 := AB_6.next bN7
                have G_7 := turn_next G_6 bN7
                have D_7 := D_6.next bN7
                go_wp2_with fail
                refine hK.out _ _ ⟨(names_get NB_7 i6), ((IB_7.cell j).trans hpc)⟩ (fun hHeld2 => ?_)
                clear hK K hHeld
                have hHeld := hHeld2
                clear hHeld2
                try simp only [Act.put, List.setIfInBounds_toArray, List.set_cons_zero, List.set_cons_succ, List.getElem_toArray, List.getElem_cons_zero, List.getElem_cons_succ]
                (refine wpAnyH_take (i := 14) (v := ?_) rfl (by kernel_rfl) (by kernel_rfl) (by kernel_rfl) (fun _ _ _ h => h) (Or.inl ⟨by rfl, ?_⟩) (by assumption) ?_; rotate_left 1; (focus (intro w' hSw; (try dsimp only at hSw); go_simp; (try with_reducible rfl); done)); try simp only [Act.put, List.setIfInBounds_toArray, List.set_cons_zero, List.set_cons_succ, List.getElem_toArray, List.getElem_cons_zero, List.getElem_cons_succ])
                (refine wpAnyH_take (i := 15) (v := ?_) rfl (by kernel_rfl) (by kernel_rfl) (by kernel_rfl) (fun _ _ _ h => h) (Or.inl ⟨by rfl, ?_⟩) (by assumption) ?_; rotate_left 1; (focus (intro w' hSw; (try dsimp only at hSw); go_simp; (try with_reducible rfl); done)); try simp only [Act.put, List.setIfInBounds_toArray, List.set_cons_zero, List.set_cons_succ, List.getElem_toArray, List.getElem_cons_zero, List.getElem_cons_succ])
                (refine wpAnyH_take (i := 16) (v := ?_) rfl (by kernel_rfl) (by kernel_rfl) (by kernel_rfl) (fun _ _ _ h => h) (Or.inl ⟨by rfl, ?_⟩) (by assumption) ?_; rotate_left 1; (focus (intro w' hSw; (try dsimp only at hSw); go_simp; (try with_reducible rfl); done)); try simp only [Act.put, List.setIfInBounds_toArray, List.set_cons_zero, List.set_cons_succ, List.getElem_toArray, List.getElem_cons_zero, List.getElem_cons_succ])
                have q0 := AB_7.cell 0
                have q1 := AB_7.cell 1
                have q2 := AB_7.cell 2
                have y0 := AB_7.frozen 0
                have y1 := AB_7.frozen 1
                have y2 := AB_7.frozen 2
                simp at q0 q1 q2
                have Z := Lib.hid (pre_close (P0 := P0) (N := N7) (g := N3.heap.size) (dk := dk) (i := i) (x := Sh.pcF pc) (lo := N6.heap.size) (hi := N7.heap.size) i6 (pct_share p1 p2).1 (pct_share p1 p2).2.1 AB_7 G_7 D_7 RA_7 zN3 (by assumption) (by omega) (by omega) (by omega))
                refine wpAnyH_ready (rs := [18]) (by kernel_rfl) (by simp) ?_
                refine AllReadyH.cons rfl (fun K hK => ?_) AllReadyH.nil
                go_simp
                try simp only [y0, y1, y2, Bool.false_eq_true, if_false]
                go_wp2_with fail
                refine hK.out _ _ ?_ (fun hHeld2 => ?_)
                · exact ⟨cell_store3 hHeld.1 (by omega) _ _ _, cell_store3 hHeld.2 (by omega) _ _ _⟩
                clear hK K hHeld
                have hHeld := hHeld2
                clear hHeld2
                try simp only [Act.put, List.setIfInBounds_toArray, List.set_cons_zero, List.set_cons_succ, List.getElem_toArray, List.getElem_cons_zero, List.getElem_cons_succ]
                (refine wpAnyH_take (i := 19) (v := ?_) rfl (by kernel_rfl) (by kernel_rfl) (by kernel_rfl) (fun _ _ _ h => h) (Or.inl ⟨by rfl, ?_⟩) (by assumption) ?_; rotate_left 1; (focus (intro w' hSw; (try dsimp only at hSw); go_simp; (try with_reducible rfl); done)); try simp only [Act.put, List.setIfInBounds_toArray, List.set_cons_zero, List.set_cons_succ, List.getElem_toArray, List.getElem_cons_zero, List.getElem_cons_succ])
                refine wpAnyH_done (by kernel_rfl) ?_ _
                clear hHeld
                go_wp2
                go_meet
                exact ⟨_, rfl, rfl, Z.out⟩
              · go_simp
                go_at_call 26
                refine (next_any dk 6 _ (by decide) (by decide) D_4).mono ?_
                rintro e N5 ⟨vj, rfl, vj0, vj1, D_5, gN5⟩
                have zN5 : P0.heap.size ≤ N5.heap.size := Nat.le_trans zN4 gN5.size
                have sN5 := gN5.size
                have NB_5 := NB_4.turn gN5 (by omega)
                have AB_5 := AB_4.turn gN5 (by omega)
                have G_5 := turn_trans G_4 gN5
                obtain ⟨j, rfl⟩ := Int.eq_ofNat_of_zero_le vj0
                have j6 : j < 6 := by omega
                have j7 : 0 ≤ (j : Int) ∧ (j : Int) < 6 := by omega
                clear vj0 vj1
                go_wp2_with fail
                refine hK.out _ _ (names_get NB_5 i6) (fun hHeld2 => ?_)
                clear hK K hHeld
                have hHeld := hHeld2
                clear hHeld2
                try simp only [Act.put, List.setIfInBounds_toArray, List.set_cons_zero, List.set_cons_succ, List.getElem_toArray, List.getElem_cons_zero, List.getElem_cons_succ]
                refine wpAnyH_ready (rs := [8]) (by kernel_rfl) (by simp) ?_
                refine AllReadyH.cons rfl (fun K hK => ?_) AllReadyH.nil
                go_simp
                obtain ⟨N6, hN6⟩ : ∃ W', W' = World.alloc N5 (.cells #[.int .i64 10, .int .i64 15, .int .i64 25, .int .i64 30, .int .i64 50, .int .i64 (1 + u)] 3) := ⟨_, rfl⟩
                rw [← hN6]
                have bN6 : Below N5.heap.size N5 N6 := by rw [hN6]; exact (Below.refl _ _).alloc (Nat.le_refl _) _
                have IB_6 : Blk N6 N5.heap.size 3 #[.int .i64 10, .int .i64 15, .int .i64 25, .int .i64 30, .int .i64 50, .int .i64 (1 + u)] := by rw [hN6]; exact Blk.new _ _ _
                clear hN6
                have zN6 : P0.heap.size ≤ N6.heap.size := Nat.le_trans zN5 bN6.size
                have sN6 := bN6.size
                have NB_6 := NB_5.next bN6
                have AB_6 := AB_5.next bN6
                have G_6 := turn_next G_5 bN6
                have D_6 := D_5.next bN6
                have il := IB_6.lt
                refine hK.out _ _ (names_get NB_6 i6) (fun hHeld2 => ?_)
                clear hK K hHeld
                have hHeld := hHeld2
                clear hHeld2
                try simp only [Act.put, List.setIfInBounds_toArray, List.set_cons_zero, List.set_cons_succ, List.getElem_toArray, List.getElem_cons_zero, List.getElem_cons_succ]
                obtain ⟨pc, hpc, p1, p2⟩ := ints_get (u := u) u0 u1 j6
                have hHeld2 := And.intro hHeld ((IB_6.cell j).trans hpc)
                refine wpAnyH_mono (S' := fun w' => w'.cell? ⟨P0.heap.size, i, none⟩ = some (.string (preN i)) ∧ w'.cell? ⟨N5.heap.size, j, none⟩ = some (.int .i64 pc)) (fun _ h => h.1) _ _ _ _ ?_
                clear hHeld
                have hHeld := hHeld2
                clear hHeld2
                (refine wpAnyH_take (i := 11) (v := ?_) rfl (by kernel_rfl) (by kernel_rfl) (by kernel_rfl) (fun _ _ _ h => h) (Or.inl ⟨by rfl, ?_⟩) (by assumption) ?_; rotate_left 1; (focus (intro w' hSw; (try dsimp only at hSw); go_simp; (try with_reducible rfl); done)); try simp only [Act.put, List.setIfInBounds_toArray, List.set_cons_zero, List.set_cons_succ, List.getElem_toArray, List.getElem_cons_zero, List.getElem_cons_succ])
                (refine wpAnyH_take (i := 12) (v := ?_) rfl (by kernel_rfl) (by kernel_rfl) (by kernel_rfl) (fun _ _ _ h => h) (Or.inl ⟨by rfl, ?_⟩) (by assumption) ?_; rotate_left 1; (focus (intro w' hSw; (try dsimp only at hSw); go_simp; (try with_reducible rfl); done)); try simp only [Act.put, List.setIfInBounds_toArray, List.set_cons_zero, List.set_cons_succ, List.getElem_toArray, List.getElem_cons_zero, List.getElem_cons_succ])
                refine wpAnyH_ready (rs := [13]) (by kernel_rfl) (by simp) ?_
                refine AllReadyH.cons rfl (fun K hK => ?_) AllReadyH.nil
                go_simp
                go_at_call 46
                refine (get_any i i6 pc _ p1 p2).mono ?_
                rintro e N7 ⟨v, rfl, hro, bN7⟩
                obtain ⟨A, c, rfl, RA_7⟩ := hro.slice
                have zN7 : P0.heap.size ≤ N7.heap.size := Nat.le_trans zN6 bN7.size
                have sN7 := bN7.size
                have NB_7 := NB_6.next bN7
                have IB_7 := IB_6.next bN7
                have AB_7 := AB_6.next bN7
                have G_7 := turn_next G_6 bN7
                have D_7 := D_6.next bN7
                go_wp2_with fail
                refine hK.out _ _ ⟨(names_get NB_7 i6), ((IB_7.cell j).trans hpc)⟩ (fun hHeld2 => ?_)
                clear hK K hHeld
                have hHeld := hHeld2
                clear hHeld2
                try simp only [Act.put, List.setIfInBounds_toArray, List.set_cons_zero, List.set_cons_succ, List.getElem_toArray, List.getElem_cons_zero, List.getElem_cons_succ]
                (refine wpAnyH_take (i := 14) (v := ?_) rfl (by kernel_rfl) (by kernel_rfl) (by kernel_rfl) (fun _ _ _ h => h) (Or.inl ⟨by rfl, ?_⟩) (by assumption) ?_; rotate_left 1; (focus (intro w' hSw; (try dsimp only at hSw); go_simp; (try with_reducible rfl); done)); try simp only [Act.put, List.setIfInBounds_toArray, List.set_cons_zero, List.set_cons_succ, List.getElem_toArray, List.getElem_cons_zero, List.getElem_cons_succ])
                (refine wpAnyH_take (i := 15) (v := ?_) rfl (by kernel_rfl) (by kernel_rfl) (by kernel_rfl) (fun _ _ _ h => h) (Or.inl ⟨by rfl, ?_⟩) (by assumption) ?_; rotate_left 1; (focus (intro w' hSw; (try dsimp only at hSw); go_simp; (try with_reducible rfl); done)); try simp only [Act.put, List.setIfInBounds_toArray, List.set_cons_zero, List.set_cons_succ, List.getElem_toArray, List.getElem_cons_zero, List.getElem_cons_succ])
                (refine wpAnyH_take (i := 16) (v := ?_) rfl (by kernel_rfl) (by kernel_rfl) (by kernel_rfl) (fun _ _ _ h => h) (Or.inl ⟨by rfl, ?_⟩) (by assumption) ?_; rotate_left 1; (focus (intro w' hSw; (try dsimp only at hSw); go_simp; (try with_reducible rfl); done)); try simp only [Act.put, List.setIfInBounds_toArray, List.set_cons_zero, List.set_cons_succ, List.getElem_toArray, List.getElem_cons_zero, List.getElem_cons_succ])
                have q0 := AB_7.cell 0
                have q1 := AB_7.cell 1
                have q2 := AB_7.cell 2
                have y0 := AB_7.frozen 0
                have y1 := AB_7.frozen 1
                have y2 := AB_7.frozen 2
                simp at q0 q1 q2
                have Z := Lib.hid (pre_close (P0 := P0) (N := N7) (g := N3.heap.size) (dk := dk) (i := i) (x := Sh.pcF pc) (lo := N6.heap.size) (hi := N7.heap.size) i6 (pct_share p1 p2).1 (pct_share p1 p2).2.1 AB_7 G_7 D_7 RA_7 zN3 (by assumption) (by omega) (by omega) (by omega))
                refine wpAnyH_ready (rs := [18]) (by kernel_rfl) (by simp) ?_
                refine AllReadyH.cons rfl (fun K hK => ?_) AllReadyH.nil
                go_simp
                try simp only [y0, y1, y2, Bool.false_eq_true, if_false]
                go_wp2_with fail
                refine hK.out _ _ ?_ (fun hHeld2 => ?_)
                · exact ⟨cell_store3 hHeld.1 (by omega) _ _ _, cell_store3 hHeld.2 (by omega) _ _ _⟩
                clear hK K hHeld
                have hHeld := hHeld2
                clear hHeld2
                try simp only [Act.put, List.setIfInBounds_toArray, List.set_cons_zero, List.set_cons_succ, List.getElem_toArray, List.getElem_cons_zero, List.getElem_cons_succ]
                (refine wpAnyH_take (i := 19) (v := ?_) rfl (by kernel_rfl) (by kernel_rfl) (by kernel_rfl) (fun _ _ _ h => h) (Or.inl ⟨by rfl, ?_⟩) (by assumption) ?_; rotate_left 1; (focus (intro w' hSw; (try dsimp only at hSw); go_simp; (try with_reducible rfl); done)); try simp only [Act.put, List.setIfInBounds_toArray, List.set_cons_zero, List.set_cons_succ, List.getElem_toArray, List.getElem_cons_zero, List.getElem_cons_succ])
                refine wpAnyH_done (by kernel_rfl) ?_ _
                clear hHeld
                go_wp2
                go_meet
                exact ⟨_, rfl, rfl, Z.out⟩
          · go_simp
            obtain ⟨N3, hN3⟩ : ∃ W', W' = World.alloc N2 (.cells #[.string { data := #[] }, .slice none 0 0, .int .i64 0] 27) := ⟨_, rfl⟩
            rw [← hN3]
            have bN3 : Below N2.heap.size N2 N3 := by rw [hN3]; exact (Below.refl _ _).alloc (Nat.le_refl _) _
            have AB_3 : Blk N3 N2.heap.size 27 #[.string { data := #[] }, .slice none 0 0, .int .i64 0] := by rw [hN3]; exact Blk.new _ _ _
            clear hN3
            have zN3 : P0.heap.size ≤ N3.heap.size := Nat.le_trans zN2 bN3.size
            have sN3 := bN3.size
            have NB_3 := NB_2.next bN3
            have G_3 := turn_next G_2 bN3
            have D_3 := D_2.next bN3
            have al := AB_3.lt
            refine hK.out _ _ (names_get NB_3 i6) (fun hHeld2 => ?_)
            clear hK K hHeld
            have hHeld := hHeld2
            clear hHeld2
            try simp only [Act.put, List.setIfInBounds_toArray, List.set_cons_zero, List.set_cons_succ, List.getElem_toArray, List.getElem_cons_zero, List.getElem_cons_succ]
            refine wpAnyH_ready (rs := [6]) (by kernel_rfl) (by simp) ?_
            refine AllReadyH.cons rfl (fun K hK => ?_) AllReadyH.nil
            go_simp
            go_at_call 26
            refine (next_any dk 100 _ (by decide) (by decide) D_3).mono ?_
            rintro e N4 ⟨u, rfl, u0, u1, D_4, gN4⟩
            have zN4 : P0.heap.size ≤ N4.heap.size := Nat.le_trans zN3 gN4.size
            have sN4 := gN4.size
            have NB_4 := NB_3.turn gN4 (by omega)
            have AB_4 := AB_3.turn gN4 (by omega)
            have G_4 := turn_trans G_3 gN4
            have hw : IntKind.i64.wrap (1 + u) = 1 + u := IntWalk.i64_in _ (by omega)
            go_wp2_with fail
            refine hK.out _ _ (names_get NB_4 i6) (fun hHeld2 => ?_)
            clear hK K hHeld
            have hHeld := hHeld2
            clear hHeld2
            try simp only [Act.put, List.setIfInBounds_toArray, List.set_cons_zero, List.set_cons_succ, List.getElem_toArray, List.getElem_cons_zero, List.getElem_cons_succ]
            (refine wpAnyH_take (i := 7) (v := ?_) rfl (by kernel_rfl) (by kernel_rfl) (by kernel_rfl) (fun _ _ _ h => h) (Or.inl ⟨by rfl, ?_⟩) (by assumption) ?_; rotate_left 1; (focus (intro w' hSw; (try dsimp only at hSw); go_simp; (try with_reducible rfl); done)); try simp only [Act.put, List.setIfInBounds_toArray, List.set_cons_zero, List.set_cons_succ, List.getElem_toArray, List.getElem_cons_zero, List.getElem_cons_succ])
            refine wpAnyH_ready (rs := [8, 10]) (by kernel_rfl) (by simp) ?_
            refine AllReadyH.cons rfl (fun K hK => ?_) (AllReadyH.cons rfl (fun K hK => ?_) AllReadyH.nil)
            · go_simp
              obtain ⟨N5, hN5⟩ : ∃ W', W' = World.alloc N4 (.cells #[.int .i64 10, .int .i64 15, .int .i64 25, .int .i64 30, .int .i64 50, .int .i64 (1 + u)] 3) := ⟨_, rfl⟩
              rw [← hN5]
              have bN5 : Below N4.heap.size N4 N5 := by rw [hN5]; exact (Below.refl _ _).alloc (Nat.le_refl _) _
              have IB_5 : Blk N5 N4.heap.size 3 #[.int .i64 10, .int .i64 15, .int .i64 25, .int .i64 30, .int .i64 50, .int .i64 (1 + u)] := by rw [hN5]; exact Blk.new _ _ _
              clear hN5
              have zN5 : P0.heap.size ≤ N5.heap.size := Nat.le_trans zN4 bN5.size
              have sN5 := bN5.size
              have NB_5 := NB_4.next bN5
              have AB_5 := AB_4.next bN5
              have G_5 := turn_next G_4 bN5
              have D_5 := D_4.next bN5
              have il := IB_5.lt
              refine hK.out _ _ (names_get NB_5 i6) (fun hHeld2 => ?_)
              clear hK K hHeld
              have hHeld := hHeld2
              clear hHeld2
              try simp only [Act.put, List.setIfInBounds_toArray, List.set_cons_zero, List.set_cons_succ, List.getElem_toArray, List.getElem_cons_zero, List.getElem_cons_succ]
              refine wpAnyH_ready (rs := [10]) (by kernel_rfl) (by simp) ?_
              refine AllReadyH.cons rfl (fun K hK => ?_) AllReadyH.nil
              go_simp
              go_at_call 26
              refine (next_any dk 6 _ (by decide) (by decide) D_5).mono ?_
              rintro e N6 ⟨vj, rfl, vj0, vj1, D_6, gN6⟩
              have zN6 : P0.heap.size ≤ N6.heap.size := Nat.le_trans zN5 gN6.size
              have sN6 := gN6.size
              have NB_6 := NB_5.turn gN6 (by omega)
              have IB_6 := IB_5.turn gN6 (by omega)
              have AB_6 := AB_5.turn gN6 (by omega)
              have G_6 := turn_trans G_5 gN6
              obtain ⟨j, rfl⟩ := Int.eq_ofNat_of_zero_le vj0
              have j6 : j < 6 := by omega
              have j7 : 0 ≤ (j : Int) ∧ (j : Int) < 6 := by omega
              clear vj0 vj1
              go_wp2_with fail
              refine hK.out _ _ (names_get NB_6 i6) (fun hHeld2 => ?_)
              clear hK K hHeld
              have hHeld := hHeld2
              clear hHeld2
              try simp only [Act.put, List.setIfInBounds_toArray, List.set_cons_zero, List.set_cons_succ, List.getElem_toArray, List.getElem_cons_zero, List.getElem_cons_succ]
              obtain ⟨pc, hpc, p1, p2⟩ := ints_get (u := u) u0 u1 j6
              have hHeld2 := And.intro hHeld ((IB_6.cell j).trans hpc)
              refine wpAnyH_mono (S' := fun w' => w'.cell? ⟨P0.heap.size, i, none⟩ = some (.string (preN i)) ∧ w'.cell? ⟨N4.heap.size, j, none⟩ = some (.int .i64 pc)) (fun _ h => h.1) _ _ _ _ ?_
              clear hHeld
              have hHeld := hHeld2
              clear hHeld2
              (refine wpAnyH_take (i := 11) (v := ?_) rfl (by kernel_rfl) (by kernel_rfl) (by kernel_rfl) (fun _ _ _ h => h) (Or.inl ⟨by rfl, ?_⟩) (by assumption) ?_; rotate_left 1; (focus (intro w' hSw; (try dsimp only at hSw); go_simp; (try with_reducible rfl); done)); try simp only [Act.put, List.setIfInBounds_toArray, List.set_cons_zero, List.set_cons_succ, List.getElem_toArray, List.getElem_cons_zero, List.getElem_cons_succ])
              (refine wpAnyH_take (i := 12) (v := ?_) rfl (by kernel_rfl) (by kernel_rfl) (by kernel_rfl) (fun _ _ _ h => h) (Or.inl ⟨by rfl, ?_⟩) (by assumption) ?_; rotate_left 1; (focus (intro w' hSw; (try dsimp only at hSw); go_simp; (try with_reducible rfl); done)); try simp only [Act.put, List.setIfInBounds_toArray, List.set_cons_zero, List.set_cons_succ, List.getElem_toArray, List.getElem_cons_zero, List.getElem_cons_succ])
              refine wpAnyH_ready (rs := [13]) (by kernel_rfl) (by simp) ?_
              refine AllReadyH.cons rfl (fun K hK => ?_) AllReadyH.nil
              go_simp
              go_at_call 46
              refine (get_any i i6 pc _ p1 p2).mono ?_
              rintro e N7 ⟨v, rfl, hro, bN7⟩
              obtain ⟨A, c, rfl, RA_7⟩ := hro.slice
              have zN7 : P0.heap.size ≤ N7.heap.size := Nat.le_trans zN6 bN7.size
              have sN7 := bN7.size
              have NB_7 := NB_6.next bN7
              have IB_7 := IB_6.next bN7
              have AB_7 := AB_6.next bN7
              have G_7 := turn_next G_6 bN7
              have D_7 := D_6.next bN7
              go_wp2_with fail
              refine hK.out _ _ ⟨(names_get NB_7 i6), ((IB_7.cell j).trans hpc)⟩ (fun hHeld2 => ?_)
              clear hK K hHeld
              have hHeld := hHeld2
              clear hHeld2
              try simp only [Act.put, List.setIfInBounds_toArray, List.set_cons_zero, List.set_cons_succ, List.getElem_toArray, List.getElem_cons_zero, List.getElem_cons_succ]
              (refine wpAnyH_take (i := 14) (v := ?_) rfl (by kernel_rfl) (by kernel_rfl) (by kernel_rfl) (fun _ _ _ h => h) (Or.inl ⟨by rfl, ?_⟩) (by assumption) ?_; rotate_left 1; (focus (intro w' hSw; (try dsimp only at hSw); go_simp; (try with_reducible rfl); done)); try simp only [Act.put, List.setIfInBounds_toArray, List.set_cons_zero, List.set_cons_succ, List.getElem_toArray, List.getElem_cons_zero, List.getElem_cons_succ])
              (refine wpAnyH_take (i := 15) (v := ?_) rfl (by kernel_rfl) (by kernel_rfl) (by kernel_rfl) (fun _ _ _ h => h) (Or.inl ⟨by rfl, ?_⟩) (by assumption) ?_; rotate_left 1; (focus (intro w' hSw; (try dsimp only at hSw); go_simp; (try with_reducible rfl); done)); try simp only [Act.put, List.setIfInBounds_toArray, List.set_cons_zero, List.set_cons_succ, List.getElem_toArray, List.getElem_cons_zero, List.getElem_cons_succ])
              (refine wpAnyH_take (i := 16) (v := ?_) rfl (by kernel_rfl) (by kernel_rfl) (by kernel_rfl) (fun _ _ _ h => h) (Or.inl ⟨by rfl, ?_⟩) (by assumption) ?_; rotate_left 1; (focus (intro w' hSw; (try dsimp only at hSw); go_simp; (try with_reducible rfl); done)); try simp only [Act.put, List.setIfInBounds_toArray, List.set_cons_zero, List.set_cons_succ, List.getElem_toArray, List.getElem_cons_zero, List.getElem_cons_succ])
              have q0 := AB_7.cell 0
              have q1 := AB_7.cell 1
              have q2 := AB_7.cell 2
              have y0 := AB_7.frozen 0
              have y1 := AB_7.frozen 1
              have y2 := AB_7.frozen 2
              simp at q0 q1 q2
              have Z := Lib.hid (pre_close (P0 := P0) (N := N7) (g := N2.heap.size) (dk := dk) (i := i) (x := Sh.pcF pc) (lo := N6.heap.size) (hi := N7.heap.size) i6 (pct_share p1 p2).1 (pct_share p1 p2).2.1 AB_7 G_7 D_7 RA_7 zN2 (by assumption) (by omega) (by omega) (by omega))
              refine wpAnyH_ready (rs := [18]) (by kernel_rfl) (by simp) ?_
              refine AllReadyH.cons rfl (fun K hK => ?_) AllReadyH.nil
              go_simp
              try simp only [y0, y1, y2, Bool.false_eq_true, if_false]
              go_wp2_with fail
              refine hK.out _ _ ?_ (fun hHeld2 => ?_)
              · exact ⟨cell_store3 hHeld.1 (by omega) _ _ _, cell_store3 hHeld.2 (by omega) _ _ _⟩
              clear hK K hHeld
              have hHeld := hHeld2
              clear hHeld2
              try simp only [Act.put, List.setIfInBounds_toArray, List.set_cons_zero, List.set_cons_succ, List.getElem_toArray, List.getElem_cons_zero, List.getElem_cons_succ]
              (refine wpAnyH_take (i := 19) (v := ?_) rfl (by kernel_rfl) (by kernel_rfl) (by kernel_rfl) (fun _ _ _ h => h) (Or.inl ⟨by rfl, ?_⟩) (by assumption) ?_; rotate_left 1; (focus (intro w' hSw; (try dsimp only at hSw); go_simp; (try with_reducible rfl); done)); try simp only [Act.put, List.setIfInBounds_toArray, List.set_cons_zero, List.set_cons_succ, List.getElem_toArray, List.getElem_cons_zero, List.getElem_cons_succ])
              refine wpAnyH_done (by kernel_rfl) ?_ _
              clear hHeld
              go_wp2
              go_meet
              exact ⟨_, rfl, rfl, Z.out⟩
            · go_simp
              go_at_call 26
              refine (next_any dk 6 _ (by decide) (by decide) D_4).mono ?_
              rintro e N5 ⟨vj, rfl, vj0, vj1, D_5, gN5⟩
              have zN5 : P0.heap.size ≤ N5.heap.size := Nat.le_trans zN4 gN5.size
              have sN5 := gN5.size
              have NB_5 := NB_4.turn gN5 (by omega)
              have AB_5 := AB_4.turn gN5 (by omega)
              have G_5 := turn_trans G_4 gN5
              obtain ⟨j, rfl⟩ := Int.eq_ofNat_of_zero_le vj0
              have j6 : j < 6 := by omega
              have j7 : 0 ≤ (j : Int) ∧ (j : Int) < 6 := by omega
              clear vj0 vj1
              go_wp2_with fail
              refine hK.out _ _ (names_get NB_5 i6) (fun hHeld2 => ?_)
              clear hK K hHeld
              have hHeld := hHeld2
              clear hHeld2
              try simp only [Act.put, List.setIfInBounds_toArray, List.set_cons_zero, List.set_cons_succ, List.getElem_toArray, List.getElem_cons_zero, List.getElem_cons_succ]
              refine wpAnyH_ready (rs := [8]) (by kernel_rfl) (by simp) ?_
              refine AllReadyH.cons rfl (fun K hK => ?_) AllReadyH.nil
              go_simp
              obtain ⟨N6, hN6⟩ : ∃ W', W' = World.alloc N5 (.cells #[.int .i64 10, .int .i64 15, .int .i64 25, .int .i64 30, .int .i64 50, .int .i64 (1 + u)] 3) := ⟨_, rfl⟩
              rw [← hN6]
              have bN6 : Below N5.heap.size N5 N6 := by rw [hN6]; exact (Below.refl _ _).alloc (Nat.le_refl _) _
              have IB_6 : Blk N6 N5.heap.size 3 #[.int .i64 10, .int .i64 15, .int .i64 25, .int .i64 30, .int .i64 50, .int .i64 (1 + u)] := by rw [hN6]; exact Blk.new _ _ _
              clear hN6
              have zN6 : P0.heap.size ≤ N6.heap.size := Nat.le_trans zN5 bN6.size
              have sN6 := bN6.size
              have NB_6 := NB_5.next bN6
              have AB_6 := AB_5.next bN6
              have G_6 := turn_next G_5 bN6
              have D_6 := D_5.next bN6
              have il := IB_6.lt
              refine hK.out _ _ (names_get NB_6 i6) (fun hHeld2 => ?_)
              clear hK K hHeld
              have hHeld := hHeld2
              clear hHeld2
              try simp only [Act.put, List.setIfInBounds_toArray, List.set_cons_zero, List.set_cons_succ, List.getElem_toArray, List.getElem_cons_zero, List.getElem_cons_succ]
              obtain ⟨pc, hpc, p1, p2⟩ := ints_get (u := u) u0 u1 j6
              have hHeld2 := And.intro hHeld ((IB_6.cell j).trans hpc)
              refine wpAnyH_mono (S' := fun w' => w'.cell? ⟨P0.heap.size, i, none⟩ = some (.string (preN i)) ∧ w'.cell? ⟨N5.heap.size, j, none⟩ = some (.int .i64 pc)) (fun _ h => h.1) _ _ _ _ ?_
              clear hHeld
              have hHeld := hHeld2
              clear hHeld2
              (refine wpAnyH_take (i := 11) (v := ?_) rfl (by kernel_rfl) (by kernel_rfl) (by kernel_rfl) (fun _ _ _ h => h) (Or.inl ⟨by rfl, ?_⟩) (by assumption) ?_; rotate_left 1; (focus (intro w' hSw; (try dsimp only at hSw); go_simp; (try with_reducible rfl); done)); try simp only [Act.put, List.setIfInBounds_toArray, List.set_cons_zero, List.set_cons_succ, List.getElem_toArray, List.getElem_cons_zero, List.getElem_cons_succ])
              (refine wpAnyH_take (i := 12) (v := ?_) rfl (by kernel_rfl) (by kernel_rfl) (by kernel_rfl) (fun _ _ _ h => h) (Or.inl ⟨by rfl, ?_⟩) (by assumption) ?_; rotate_left 1; (focus (intro w' hSw; (try dsimp only at hSw); go_simp; (try with_reducible rfl); done)); try simp only [Act.put, List.setIfInBounds_toArray, List.set_cons_zero, List.set_cons_succ, List.getElem_toArray, List.getElem_cons_zero, List.getElem_cons_succ])
              refine wpAnyH_ready (rs := [13]) (by kernel_rfl) (by simp) ?_
              refine AllReadyH.cons rfl (fun K hK => ?_) AllReadyH.nil
              go_simp
              go_at_call 46
              refine (get_any i i6 pc _ p1 p2).mono ?_
              rintro e N7 ⟨v, rfl, hro, bN7⟩
              obtain ⟨A, c, rfl, RA_7⟩ := hro.slice
              have zN7 : P0.heap.size ≤ N7.heap.size := Nat.le_trans zN6 bN7.size
              have sN7 := bN7.size
              have NB_7 := NB_6.next bN7
              have IB_7 := IB_6.next bN7
              have AB_7 := AB_6.next bN7
              have G_7 := turn_next G_6 bN7
              have D_7 := D_6.next bN7
              go_wp2_with fail
              refine hK.out _ _ ⟨(names_get NB_7 i6), ((IB_7.cell j).trans hpc)⟩ (fun hHeld2 => ?_)
              clear hK K hHeld
              have hHeld := hHeld2
              clear hHeld2
              try simp only [Act.put, List.setIfInBounds_toArray, List.set_cons_zero, List.set_cons_succ, List.getElem_toArray, List.getElem_cons_zero, List.getElem_cons_succ]
              (refine wpAnyH_take (i := 14) (v := ?_) rfl (by kernel_rfl) (by kernel_rfl) (by kernel_rfl) (fun _ _ _ h => h) (Or.inl ⟨by rfl, ?_⟩) (by assumption) ?_; rotate_left 1; (focus (intro w' hSw; (try dsimp only at hSw); go_simp; (try with_reducible rfl); done)); try simp only [Act.put, List.setIfInBounds_toArray, List.set_cons_zero, List.set_cons_succ, List.getElem_toArray, List.getElem_cons_zero, List.getElem_cons_succ])
              (refine wpAnyH_take (i := 15) (v := ?_) rfl (by kernel_rfl) (by kernel_rfl) (by kernel_rfl) (fun _ _ _ h => h) (Or.inl ⟨by rfl, ?_⟩) (by assumption) ?_; rotate_left 1; (focus (intro w' hSw; (try dsimp only at hSw); go_simp; (try with_reducible rfl); done)); try simp only [Act.put, List.setIfInBounds_toArray, List.set_cons_zero, List.set_cons_succ, List.getElem_toArray, List.getElem_cons_zero, List.getElem_cons_succ])
              (refine wpAnyH_take (i := 16) (v := ?_) rfl (by kernel_rfl) (by kernel_rfl) (by kernel_rfl) (fun _ _ _ h => h) (Or.inl ⟨by rfl, ?_⟩) (by assumption) ?_; rotate_left 1; (focus (intro w' hSw; (try dsimp only at hSw); go_simp; (try with_reducible rfl); done)); try simp only [Act.put, List.setIfInBounds_toArray, List.set_cons_zero, List.set_cons_succ, List.getElem_toArray, List.getElem_cons_zero, List.getElem_cons_succ])
              have q0 := AB_7.cell 0
              have q1 := AB_7.cell 1
              have q2 := AB_7.cell 2
              have y0 := AB_7.frozen 0
              have y1 := AB_7.frozen 1
              have y2 := AB_7.frozen 2
              simp at q0 q1 q2
              have Z := Lib.hid (pre_close (P0 := P0) (N := N7) (g := N2.heap.size) (dk := dk) (i := i) (x := Sh.pcF pc) (lo := N6.heap.size) (hi := N7.heap.size) i6 (pct_share p1 p2).1 (pct_share p1 p2).2.1 AB_7 G_7 D_7 RA_7 zN2 (by assumption) (by omega) (by omega) (by omega))
              refine wpAnyH_ready (rs := [18]) (by kernel_rfl) (by simp) ?_
              refine AllReadyH.cons rfl (fun K hK => ?_) AllReadyH.nil
              go_simp
              try simp only [y0, y1, y2, Bool.false_eq_true, if_false]
              go_wp2_with fail
              refine hK.out _ _ ?_ (fun hHeld2 => ?_)
              · exact ⟨cell_store3 hHeld.1 (by omega) _ _ _, cell_store3 hHeld.2 (by omega) _ _ _⟩
              clear hK K hHeld
              have hHeld := hHeld2
              clear hHeld2
              try simp only [Act.put, List.setIfInBounds_toArray, List.set_cons_zero, List.set_cons_succ, List.getElem_toArray, List.getElem_cons_zero, List.getElem_cons_succ]
              (refine wpAnyH_take (i := 19) (v := ?_) rfl (by kernel_rfl) (by kernel_rfl) (by kernel_rfl) (fun _ _ _ h => h) (Or.inl ⟨by rfl, ?_⟩) (by assumption) ?_; rotate_left 1; (focus (intro w' hSw; (try dsimp only at hSw); go_simp; (try with_reducible rfl); done)); try simp only [Act.put, List.setIfInBounds_toArray, List.set_cons_zero, List.set_cons_succ, List.getElem_toArray, List.getElem_cons_zero, List.getElem_cons_succ])
              refine wpAnyH_done (by kernel_rfl) ?_ _
              clear hHeld
              go_wp2
              go_meet
              exact ⟨_, rfl, rfl, Z.out⟩
        · go_simp
          obtain ⟨N2, hN2⟩ : ∃ W', W' = World.alloc N1 (.cells #[.string { data := #[] }, .slice none 0 0, .int .i64 0] 27) := ⟨_, rfl⟩
          rw [← hN2]
          have bN2 : Below N1.heap.size N1 N2 := by rw [hN2]; exact (Below.refl _ _).alloc (Nat.le_refl _) _
          have AB_2 : Blk N2 N1.heap.size 27 #[.string { data := #[] }, .slice none 0 0, .int .i64 0] := by rw [hN2]; exact Blk.new _ _ _
          clear hN2
          have zN2 : P0.heap.size ≤ N2.heap.size := Nat.le_trans zN1 bN2.size
          have sN2 := bN2.size
          have NB_2 := NB_1.next bN2
          have G_2 := turn_next G_1 bN2
          have D_2 := D_1.next bN2
          have al := AB_2.lt
          refine hK.out _ _ trivial (fun hHeld2 => ?_)
          clear hK K hHeld
          have hHeld := hHeld2
          clear hHeld2
          try simp only [Act.put, List.setIfInBounds_toArray, List.set_cons_zero, List.set_cons_succ, List.getElem_toArray, List.getElem_cons_zero, List.getElem_cons_succ]
          refine wpAnyH_ready (rs := [2]) (by kernel_rfl) (by simp) ?_
          refine AllReadyH.cons rfl (fun K hK => ?_) AllReadyH.nil
          go_simp
          go_at_call 26
          refine (next_any dk 6 _ (by decide) (by decide) D_2).mono ?_
          rintro e N3 ⟨vi, rfl, vi0, vi1, D_3, gN3⟩
          have zN3 : P0.heap.size ≤ N3.heap.size := Nat.le_trans zN2 gN3.size
          have sN3 := gN3.size
          have NB_3 := NB_2.turn gN3 (by omega)
          have AB_3 := AB_2.turn gN3 (by omega)
          have G_3 := turn_trans G_2 gN3
          obtain ⟨i, rfl⟩ := Int.eq_ofNat_of_zero_le vi0
          have i6 : i < 6 := by omega
          have i7 : 0 ≤ (i : Int) ∧ (i : Int) < 6 := by omega
          clear vi0 vi1
          go_wp2_with fail
          refine hK.out _ _ trivial (fun hHeld2 => ?_)
          clear hK K hHeld
          have hHeld := hHeld2
          clear hHeld2
          try simp only [Act.put, List.setIfInBounds_toArray, List.set_cons_zero, List.set_cons_succ, List.getElem_toArray, List.getElem_cons_zero, List.getElem_cons_succ]
          have hHeld2 := names_get NB_3 i6
          refine wpAnyH_mono (S' := fun w' => w'.cell? ⟨P0.heap.size, i, none⟩ = some (.string (preN i))) (fun _ _ => trivial) _ _ _ _ ?_
          clear hHeld
          have hHeld := hHeld2
          clear hHeld2
          (refine wpAnyH_take (i := 3) (v := ?_) rfl (by kernel_rfl) (by kernel_rfl) (by kernel_rfl) (fun _ _ _ h => h) (Or.inl ⟨by rfl, ?_⟩) (by assumption) ?_; rotate_left 1; (focus (intro w' hSw; (try dsimp only at hSw); go_simp; (try with_reducible rfl); done)); try simp only [Act.put, List.setIfInBounds_toArray, List.set_cons_zero, List.set_cons_succ, List.getElem_toArray, List.getElem_cons_zero, List.getElem_cons_succ])
          (refine wpAnyH_take (i := 4) (v := ?_) rfl (by kernel_rfl) (by kernel_rfl) (by kernel_rfl) (fun _ _ _ h => h) (Or.inl ⟨by rfl, ?_⟩) (by assumption) ?_; rotate_left 1; (focus (intro w' hSw; (try dsimp only at hSw); go_simp; (try with_reducible rfl); done)); try simp only [Act.put, List.setIfInBounds_toArray, List.set_cons_zero, List.set_cons_succ, List.getElem_toArray, List.getElem_cons_zero, List.getElem_cons_succ])
          refine wpAnyH_ready (rs := [6]) (by kernel_rfl) (by simp) ?_
          refine AllReadyH.cons rfl (fun K hK => ?_) AllReadyH.nil
          go_simp
          go_at_call 26
          refine (next_any dk 100 _ (by decide) (by decide) D_3).mono ?_
          rintro e N4 ⟨u, rfl, u0, u1, D_4, gN4⟩
          have zN4 : P0.heap.size ≤ N4.heap.size := Nat.le_trans zN3 gN4.size
          have sN4 := gN4.size
          have NB_4 := NB_3.turn gN4 (by omega)
          have AB_4 := AB_3.turn gN4 (by omega)
          have G_4 := turn_trans G_3 gN4
          have hw : IntKind.i64.wrap (1 + u) = 1 + u := IntWalk.i64_in _ (by omega)
          go_wp2_with fail
          refine hK.out _ _ (names_get NB_4 i6) (fun hHeld2 => ?_)
          clear hK K hHeld
          have hHeld := hHeld2
          clear hHeld2
          try simp only [Act.put, List.setIfInBounds_toArray, List.set_cons_zero, List.set_cons_succ, List.getElem_toArray, List.getElem_cons_zero, List.getElem_cons_succ]
          (refine wpAnyH_take (i := 7) (v := ?_) rfl (by kernel_rfl) (by kernel_rfl) (by kernel_rfl) (fun _ _ _ h => h) (Or.inl ⟨by rfl, ?_⟩) (by assumption) ?_; rotate_left 1; (focus (intro w' hSw; (try dsimp only at hSw); go_simp; (try with_reducible rfl); done)); try simp only [Act.put, List.setIfInBounds_toArray, List.set_cons_zero, List.set_cons_succ, List.getElem_toArray, List.getElem_cons_zero, List.getElem_cons_succ])
          refine wpAnyH_ready (rs := [8, 10]) (by kernel_rfl) (by simp) ?_
          refine AllReadyH.cons rfl (fun K hK => ?_) (AllReadyH.cons rfl (fun K hK => ?_) AllReadyH.nil)
          · go_simp
            obtain ⟨N5, hN5⟩ : ∃ W', W' = World.alloc N4 (.cells #[.int .i64 10, .int .i64 15, .int .i64 25, .int .i64 30, .int .i64 50, .int .i64 (1 + u)] 3) := ⟨_, rfl⟩
            rw [← hN5]
            have bN5 : Below N4.heap.size N4 N5 := by rw [hN5]; exact (Below.refl _ _).alloc (Nat.le_refl _) _
            have IB_5 : Blk N5 N4.heap.size 3 #[.int .i64 10, .int .i64 15, .int .i64 25, .int .i64 30, .int .i64 50, .int .i64 (1 + u)] := by rw [hN5]; exact Blk.new _ _ _
            clear hN5
            have zN5 : P0.heap.size ≤ N5.heap.size := Nat.le_trans zN4 bN5.size
            have sN5 := bN5.size
            have NB_5 := NB_4.next bN5
            have AB_5 := AB_4.next bN5
            have G_5 := turn_next G_4 bN5
            have D_5 := D_4.next bN5
            have il := IB_5.lt
            refine hK.out _ _ (names_get NB_5 i6) (fun hHeld2 => ?_)
            clear hK K hHeld
            have hHeld := hHeld2
            clear hHeld2
            try simp only [Act.put, List.setIfInBounds_toArray, List.set_cons_zero, List.set_cons_succ, List.getElem_toArray, List.getElem_cons_zero, List.getElem_cons_succ]
            refine wpAnyH_ready (rs := [10]) (by kernel_rfl) (by simp) ?_
            refine AllReadyH.cons rfl (fun K hK => ?_) AllReadyH.nil
            go_simp
            go_at_call 26
            refine (next_any dk 6 _ (by decide) (by decide) D_5).mono ?_
            rintro e N6 ⟨vj, rfl, vj0, vj1, D_6, gN6⟩
            have zN6 : P0.heap.size ≤ N6.heap.size := Nat.le_trans zN5 gN6.size
            have sN6 := gN6.size
            have NB_6 := NB_5.turn gN6 (by omega)
            have IB_6 := IB_5.turn gN6 (by omega)
            have AB_6 := AB_5.turn gN6 (by omega)
            have G_6 := turn_trans G_5 gN6
            obtain ⟨j, rfl⟩ := Int.eq_ofNat_of_zero_le vj0
            have j6 : j < 6 := by omega
            have j7 : 0 ≤ (j : Int) ∧ (j : Int) < 6 := by omega
            clear vj0 vj1
            go_wp2_with fail
            refine hK.out _ _ (names_get NB_6 i6) (fun hHeld2 => ?_)
            clear hK K hHeld
            have hHeld := hHeld2
            clear hHeld2
            try simp only [Act.put, List.setIfInBounds_toArray, List.set_cons_zero, List.set_cons_succ, List.getElem_toArray, List.getElem_cons_zero, List.getElem_cons_succ]
            obtain ⟨pc, hpc, p1, p2⟩ := ints_get (u := u) u0 u1 j6
            have hHeld2 := And.intro hHeld ((IB_6.cell j).trans hpc)
            refine wpAnyH_mono (S' := fun w' => w'.cell? ⟨P0.heap.size, i, none⟩ = some (.string (preN i)) ∧ w'.cell? ⟨N4.heap.size, j, none⟩ = some (.int .i64 pc)) (fun _ h => h.1) _ _ _ _ ?_
            clear hHeld
            have hHeld := hHeld2
            clear hHeld2
            (refine wpAnyH_take (i := 11) (v := ?_) rfl (by kernel_rfl) (by kernel_rfl) (by kernel_rfl) (fun _ _ _ h => h) (Or.inl ⟨by rfl, ?_⟩) (by assumption) ?_; rotate_left 1; (focus (intro w' hSw; (try dsimp only at hSw); go_simp; (try with_reducible rfl); done)); try simp only [Act.put, List.setIfInBounds_toArray, List.set_cons_zero, List.set_cons_succ, List.getElem_toArray, List.getElem_cons_zero, List.getElem_cons_succ])
            (refine wpAnyH_take (i := 12) (v := ?_) rfl (by kernel_rfl) (by kernel_rfl) (by kernel_rfl) (fun _ _ _ h => h) (Or.inl ⟨by rfl, ?_⟩) (by assumption) ?_; rotate_left 1; (focus (intro w' hSw; (try dsimp only at hSw); go_simp; (try with_reducible rfl); done)); try simp only [Act.put, List.setIfInBounds_toArray, List.set_cons_zero, List.set_cons_succ, List.getElem_toArray, List.getElem_cons_zero, List.getElem_cons_succ])
            refine wpAnyH_ready (rs := [13]) (by kernel_rfl) (by simp) ?_
            refine AllReadyH.cons rfl (fun K hK => ?_) AllReadyH.nil
            go_simp
            go_at_call 46
            refine (get_any i i6 pc _ p1 p2).mono ?_
            rintro e N7 ⟨v, rfl, hro, bN7⟩
            obtain ⟨A, c, rfl, RA_7⟩ := hro.slice
            have zN7 : P0.heap.size ≤ N7.heap.size := Nat.le_trans zN6 bN7.size
            have sN7 := bN7.size
            have NB_7 := NB_6.next bN7
            have IB_7 := IB_6.next bN7
            have AB_7 := AB_6.next bN7
            have G_7 := turn_next G_6 bN7
            have D_7 := D_6.next bN7
            go_wp2_with fail
            refine hK.out _ _ ⟨(names_get NB_7 i6), ((IB_7.cell j).trans hpc)⟩ (fun hHeld2 => ?_)
            clear hK K hHeld
            have hHeld := hHeld2
            clear hHeld2
            try simp only [Act.put, List.setIfInBounds_toArray, List.set_cons_zero, List.set_cons_succ, List.getElem_toArray, List.getElem_cons_zero, List.getElem_cons_succ]
            (refine wpAnyH_take (i := 14) (v := ?_) rfl (by kernel_rfl) (by kernel_rfl) (by kernel_rfl) (fun _ _ _ h => h) (Or.inl ⟨by rfl, ?_⟩) (by assumption) ?_; rotate_left 1; (focus (intro w' hSw; (try dsimp only at hSw); go_simp; (try with_reducible rfl); done)); try simp only [Act.put, List.setIfInBounds_toArray, List.set_cons_zero, List.set_cons_succ, List.getElem_toArray, List.getElem_cons_zero, List.getElem_cons_succ])
            (refine wpAnyH_take (i := 15) (v := ?_) rfl (by kernel_rfl) (by kernel_rfl) (by kernel_rfl) (fun _ _ _ h => h) (Or.inl ⟨by rfl, ?_⟩) (by assumption) ?_; rotate_left 1; (focus (intro w' hSw; (try dsimp only at hSw); go_simp; (try with_reducible rfl); done)); try simp only [Act.put, List.setIfInBounds_toArray, List.set_cons_zero, List.set_cons_succ, List.getElem_toArray, List.getElem_cons_zero, List.getElem_cons_succ])
            (refine wpAnyH_take (i := 16) (v := ?_) rfl (by kernel_rfl) (by kernel_rfl) (by kernel_rfl) (fun _ _ _ h => h) (Or.inl ⟨by rfl, ?_⟩) (by assumption) ?_; rotate_left 1; (focus (intro w' hSw; (try dsimp only at hSw); go_simp; (try with_reducible rfl); done)); try simp only [Act.put, List.setIfInBounds_toArray, List.set_cons_zero, List.set_cons_succ, List.getElem_toArray, List.getElem_cons_zero, List.getElem_cons_succ])
            have q0 := AB_7.cell 0
            have q1 := AB_7.cell 1
            have q2 := AB_7.cell 2
            have y0 := AB_7.frozen 0
            have y1 := AB_7.frozen 1
            have y2 := AB_7.frozen 2
            simp at q0 q1 q2
            have Z := Lib.hid (pre_close (P0 := P0) (N := N7) (g := N1.heap.size) (dk := dk) (i := i) (x := Sh.pcF pc) (lo := N6.heap.size) (hi := N7.heap.size) i6 (pct_share p1 p2).1 (pct_share p1 p2).2.1 AB_7 G_7 D_7 RA_7 zN1 (by assumption) (by omega) (by omega) (by omega))
            refine wpAnyH_ready (rs := [18]) (by kernel_rfl) (by simp) ?_
            refine AllReadyH.cons rfl (fun K hK => ?_) AllReadyH.nil
            go_simp
            try simp only [y0, y1, y2, Bool.false_eq_true, if_false]
            go_wp2_with fail
            refine hK.out _ _ ?_ (fun hHeld2 => ?_)
            · exact ⟨cell_store3 hHeld.1 (by omega) _ _ _, cell_store3 hHeld.2 (by omega) _ _ _⟩
            clear hK K hHeld
            have hHeld := hHeld2
            clear hHeld2
            try simp only [Act.put, List.setIfInBounds_toArray, List.set_cons_zero, List.set_cons_succ, List.getElem_toArray, List.getElem_cons_zero, List.getElem_cons_succ]
            (refine wpAnyH_take (i := 19) (v := ?_) rfl (by kernel_rfl) (by kernel_rfl) (by kernel_rfl) (fun _ _ _ h => h) (Or.inl ⟨by rfl, ?_⟩) (by assumption) ?_; rotate_left 1; (focus (intro w' hSw; (try dsimp only at hSw); go_simp; (try with_reducible rfl); done)); try simp only [Act.put, List.setIfInBounds_toArray, List.set_cons_zero, List.set_cons_succ, List.getElem_toArray, List.getElem_cons_zero, List.getElem_cons_succ])
            refine wpAnyH_done (by kernel_rfl) ?_ _
            clear hHeld
            go_wp2
            go_meet
            exact ⟨_, rfl, rfl, Z.out⟩
          · go_simp
            go_at_call 26
            refine (next_any dk 6 _ (by decide) (by decide) D_4).mono ?_
            rintro e N5 ⟨vj, rfl, vj0, vj1, D_5, gN5⟩
            have zN5 : P0.heap.size ≤ N5.heap.size := Nat.le_trans zN4 gN5.size
            have sN5 := gN5.size
            have NB_5 := NB_4.turn gN5 (by omega)
            have AB_5 := AB_4.turn gN5 (by omega)
            have G_5 := turn_trans G_4 gN5
            obtain ⟨j, rfl⟩ := Int.eq_ofNat_of_zero_le vj0
            have j6 : j < 6 := by omega
            have j7 : 0 ≤ (j : Int) ∧ (j : Int) < 6 := by omega
            clear vj0 vj1
            go_wp2_with fail
            refine hK.out _ _ (names_get NB_5 i6) (fun hHeld2 => ?_)
            clear hK K hHeld
            have hHeld := hHeld2
            clear hHeld2
            try simp only [Act.put, List.setIfInBounds_toArray, List.set_cons_zero, List.set_cons_succ, List.getElem_toArray, List.getElem_cons_zero, List.getElem_cons_succ]
            refine wpAnyH_ready (rs := [8]) (by kernel_rfl) (by simp) ?_
            refine AllReadyH.cons rfl (fun K hK => ?_) AllReadyH.nil
            go_simp
            obtain ⟨N6, hN6⟩ : ∃ W', W' = World.alloc N5 (.cells #[.int .i64 10, .int .i64 15, .int .i64 25, .int .i64 30, .int .i64 50, .int .i64 (1 + u)] 3) := ⟨_, rfl⟩
            rw [← hN6]
            have bN6 : Below N5.heap.size N5 N6 := by rw [hN6]; exact (Below.refl _ _).alloc (Nat.le_refl _) _
            have IB_6 : Blk N6 N5.heap.size 3 #[.int .i64 10, .int .i64 15, .int .i64 25, .int .i64 30, .int .i64 50, .int .i64 (1 + u)] := by rw [hN6]; exact Blk.new _ _ _
            clear hN6
            have zN6 : P0.heap.size ≤ N6.heap.size := Nat.le_trans zN5 bN6.size
            have sN6 := bN6.size
            have NB_6 := NB_5.next bN6
            have AB_6 := AB_5.next bN6
            have G_6 := turn_next G_5 bN6
            have D_6 := D_5.next bN6
            have il := IB_6.lt
            refine hK.out _ _ (names_get NB_6 i6) (fun hHeld2 => ?_)
            clear hK K hHeld
            have hHeld := hHeld2
            clear hHeld2
            try simp only [Act.put, List.setIfInBounds_toArray, List.set_cons_zero, List.set_cons_succ, List.getElem_toArray, List.getElem_cons_zero, List.getElem_cons_succ]
            obtain ⟨pc, hpc, p1, p2⟩ := ints_get (u := u) u0 u1 j6
            have hHeld2 := And.intro hHeld ((IB_6.cell j).trans hpc)
            refine wpAnyH_mono (S' := fun w' => w'.cell? ⟨P0.heap.size, i, none⟩ = some (.string (preN i)) ∧ w'.cell? ⟨N5.heap.size, j, none⟩ = some (.int .i64 pc)) (fun _ h => h.1) _ _ _ _ ?_
            clear hHeld
            have hHeld := hHeld2
            clear hHeld2
            (refine wpAnyH_take (i := 11) (v := ?_) rfl (by kernel_rfl) (by kernel_rfl) (by kernel_rfl) (fun _ _ _ h => h) (Or.inl ⟨by rfl, ?_⟩) (by assumption) ?_; rotate_left 1; (focus (intro w' hSw; (try dsimp only at hSw); go_simp; (try with_reducible rfl); done)); try simp only [Act.put, List.setIfInBounds_toArray, List.set_cons_zero, List.set_cons_succ, List.getElem_toArray, List.getElem_cons_zero, List.getElem_cons_succ])
            (refine wpAnyH_take (i := 12) (v := ?_) rfl (by kernel_rfl) (by kernel_rfl) (by kernel_rfl) (fun _ _ _ h => h) (Or.inl ⟨by rfl, ?_⟩) (by assumption) ?_; rotate_left 1; (focus (intro w' hSw; (try dsimp only at hSw); go_simp; (try with_reducible rfl); done)); try simp only [Act.put, List.setIfInBounds_toArray, List.set_cons_zero, List.set_cons_succ, List.getElem_toArray, List.getElem_cons_zero, List.getElem_cons_succ])
            refine wpAnyH_ready (rs := [13]) (by kernel_rfl) (by simp) ?_
            refine AllReadyH.cons rfl (fun K hK => ?_) AllReadyH.nil
            go_simp
            go_at_call 46
            refine (get_any i i6 pc _ p1 p2).mono ?_
            rintro e N7 ⟨v, rfl, hro, bN7⟩
            obtain ⟨A, c, rfl, RA_7⟩ := hro.slice
            have zN7 : P0.heap.size ≤ N7.heap.size := Nat.le_trans zN6 bN7.size
            have sN7 := bN7.size
            have NB_7 := NB_6.next bN7
            have IB_7 := IB_6.next bN7
            have AB_7 := AB_6.next bN7
            have G_7 := turn_next G_6 bN7
            have D_7 := D_6.next bN7
            go_wp2_with fail
            refine hK.out _ _ ⟨(names_get NB_7 i6), ((IB_7.cell j).trans hpc)⟩ (fun hHeld2 => ?_)
            clear hK K hHeld
            have hHeld := hHeld2
            clear hHeld2
            try simp only [Act.put, List.setIfInBounds_toArray, List.set_cons_zero, List.set_cons_succ, List.getElem_toArray, List.getElem_cons_zero, List.getElem_cons_succ]
            (refine wpAnyH_take (i := 14) (v := ?_) rfl (by kernel_rfl) (by kernel_rfl) (by kernel_rfl) (fun _ _ _ h => h) (Or.inl ⟨by rfl, ?_⟩) (by assumption) ?_; rotate_left 1; (focus (intro w' hSw; (try dsimp only at hSw); go_simp; (try with_reducible rfl); done)); try simp only [Act.put, List.setIfInBounds_toArray, List.set_cons_zero, List.set_cons_succ, List.getElem_toArray, List.getElem_cons_zero, List.getElem_cons_succ])
            (refine wpAnyH_take (i := 15) (v := ?_) rfl (by kernel_rfl) (by kernel_rfl) (by kernel_rfl) (fun _ _ _ h => h) (Or.inl ⟨by rfl, ?_⟩) (by assumption) ?_; rotate_left 1; (focus (intro w' hSw; (try dsimp only at hSw); go_simp; (try with_reducible rfl); done)); try simp only [Act.put, List.setIfInBounds_toArray, List.set_cons_zero, List.set_cons_succ, List.getElem_toArray, List.getElem_cons_zero, List.getElem_cons_succ])
            (refine wpAnyH_take (i := 16) (v := ?_) rfl (by kernel_rfl) (by kernel_rfl) (by kernel_rfl) (fun _ _ _ h => h) (Or.inl ⟨by rfl, ?_⟩) (by assumption) ?_; rotate_left 1; (focus (intro w' hSw; (try dsimp only at hSw); go_simp; (try with_reducible rfl); done)); try simp only [Act.put, List.setIfInBounds_toArray, List.set_cons_zero, List.set_cons_succ, List.getElem_toArray, List.getElem_cons_zero, List.getElem_cons_succ])
            have q0 := AB_7.cell 0
            have q1 := AB_7.cell 1
            have q2 := AB_7.cell 2
            have y0 := AB_7.frozen 0
            have y1 := AB_7.frozen 1
            have y2 := AB_7.frozen 2
            simp at q0 q1 q2
            have Z := Lib.hid (pre_close (P0 := P0) (N := N7) (g := N1.heap.size) (dk := dk) (i := i) (x := Sh.pcF pc) (lo := N6.heap.size) (hi := N7.heap.size) i6 (pct_share p1 p2).1 (pct_share p1 p2).2.1 AB_7 G_7 D_7 RA_7 zN1 (by assumption) (by omega) (by omega) (by omega))
            refine wpAnyH_ready (rs := [18]) (by kernel_rfl) (by simp) ?_
            refine AllReadyH.cons rfl (fun K hK => ?_) AllReadyH.nil
            go_simp
            try simp only [y0, y1, y2, Bool.false_eq_true, if_false]
            go_wp2_with fail
            refine hK.out _ _ ?_ (fun hHeld2 => ?_)
            · exact ⟨cell_store3 hHeld.1 (by omega) _ _ _, cell_store3 hHeld.2 (by omega) _ _ _⟩
            clear hK K hHeld
            have hHeld := hHeld2
            clear hHeld2
            try simp only [Act.put, List.setIfInBounds_toArray, List.set_cons_zero, List.set_cons_succ, List.getElem_toArray, List.getElem_cons_zero, List.getElem_cons_succ]
            (refine wpAnyH_take (i := 19) (v := ?_) rfl (by kernel_rfl) (by kernel_rfl) (by kernel_rfl) (fun _ _ _ h => h) (Or.inl ⟨by rfl, ?_⟩) (by assumption) ?_; rotate_left 1; (focus (intro w' hSw; (try dsimp only at hSw); go_simp; (try with_reducible rfl); done)); try simp only [Act.put, List.setIfInBounds_toArray, List.set_cons_zero, List.set_cons_succ, List.getElem_toArray, List.getElem_cons_zero, List.getElem_cons_succ])
            refine wpAnyH_done (by kernel_rfl) ?_ _
            clear hHeld
            go_wp2
            go_meet
            exact ⟨_, rfl, rfl, Z.out⟩
      · go_simp
        obtain ⟨N1, hN1⟩ : ∃ W', W' = World.drew (World.alloc P0 (.cells #[.string { data := #[] }, .slice none 0 0, .int .i64 0] 27)) := ⟨_, rfl⟩
        rw [← hN1]
        have bN1 : Below P0.drew.heap.size P0.drew N1 := by rw [hN1]; exact (show Below P0.heap.size P0.drew (World.alloc P0.drew (.cells #[.string { data := #[] }, .slice none 0 0, .int .i64 0] 27)) from (Below.refl P0.heap.size P0.drew).alloc (Nat.le_refl P0.heap.size) _)
        have AB_1 : Blk N1 P0.heap.size 27 #[.string { data := #[] }, .slice none 0 0, .int .i64 0] := by rw [hN1]; exact Blk.new P0.drew _ _
        clear hN1
        have zN1 : P0.heap.size ≤ N1.heap.size := Nat.le_trans zP0d bN1.size
        have sN1 := bN1.size
        have G_1 := turn_next G0 bN1
        have D_1 := D0.next bN1
        have al := AB_1.lt
        refine hK.out _ _ trivial (fun hHeld2 => ?_)
        clear hK K hHeld
        have hHeld := hHeld2
        clear hHeld2
        try simp only [Act.put, List.setIfInBounds_toArray, List.set_cons_zero, List.set_cons_succ, List.getElem_toArray, List.getElem_cons_zero, List.getElem_cons_succ]
        refine wpAnyH_ready (rs := [0]) (by kernel_rfl) (by simp) ?_
        refine AllReadyH.cons rfl (fun K hK => ?_) AllReadyH.nil
        go_simp
        go_at_call 47
        refine (names_any _).mono ?_
        rintro e N2 ⟨rfl, hN2⟩
        have bN2 : Below N1.heap.size N1 N2 := by rw [hN2]; exact (Below.refl _ _).alloc (Nat.le_refl _) _
        have NB_2 : Blk N2 N1.heap.size 9 #[.string (preN 0), .string (preN 1), .string (preN 2), .string (preN 3), .string (preN 4), .string (preN 5)] := by rw [hN2]; exact Blk.new _ _ _
        clear hN2
        have zN2 : P0.heap.size ≤ N2.heap.size := Nat.le_trans zN1 bN2.size
        have sN2 := bN2.size
        have AB_2 := AB_1.next bN2
        have G_2 := turn_next G_1 bN2
        have D_2 := D_1.next bN2
        have nl := NB_2.lt
        go_wp2_with fail
        refine hK.out _ _ trivial (fun hHeld2 => ?_)
        clear hK K hHeld
        have hHeld := hHeld2
        clear hHeld2
        try simp only [Act.put, List.setIfInBounds_toArray, List.set_cons_zero, List.set_cons_succ, List.getElem_toArray, List.getElem_cons_zero, List.getElem_cons_succ]
        refine wpAnyH_ready (rs := [2]) (by kernel_rfl) (by simp) ?_
        refine AllReadyH.cons rfl (fun K hK => ?_) AllReadyH.nil
        go_simp
        go_at_call 26
        refine (next_any dk 6 _ (by decide) (by decide) D_2).mono ?_
        rintro e N3 ⟨vi, rfl, vi0, vi1, D_3, gN3⟩
        have zN3 : P0.heap.size ≤ N3.heap.size := Nat.le_trans zN2 gN3.size
        have sN3 := gN3.size
        have NB_3 := NB_2.turn gN3 (by omega)
        have AB_3 := AB_2.turn gN3 (by omega)
        have G_3 := turn_trans G_2 gN3
        obtain ⟨i, rfl⟩ := Int.eq_ofNat_of_zero_le vi0
        have i6 : i < 6 := by omega
        have i7 : 0 ≤ (i : Int) ∧ (i : Int) < 6 := by omega
        clear vi0 vi1
        go_wp2_with fail
        refine hK.out _ _ trivial (fun hHeld2 => ?_)
        clear hK K hHeld
        have hHeld := hHeld2
        clear hHeld2
        try simp only [Act.put, List.setIfInBounds_toArray, List.set_cons_zero, List.set_cons_succ, List.getElem_toArray, List.getElem_cons_zero, List.getElem_cons_succ]
        have hHeld2 := names_get NB_3 i6
        refine wpAnyH_mono (S' := fun w' => w'.cell? ⟨N1.heap.size, i, none⟩ = some (.string (preN i))) (fun _ _ => trivial) _ _ _ _ ?_
        clear hHeld
        have hHeld := hHeld2
        clear hHeld2
        (refine wpAnyH_take (i := 3) (v := ?_) rfl (by kernel_rfl) (by kernel_rfl) (by kernel_rfl) (fun _ _ _ h => h) (Or.inl ⟨by rfl, ?_⟩) (by assumption) ?_; rotate_left 1; (focus (intro w' hSw; (try dsimp only at hSw); go_simp; (try with_reducible rfl); done)); try simp only [Act.put, List.setIfInBounds_toArray, List.set_cons_zero, List.set_cons_succ, List.getElem_toArray, List.getElem_cons_zero, List.getElem_cons_succ])
        (refine wpAnyH_take (i := 4) (v := ?_) rfl (by kernel_rfl) (by kernel_rfl) (by kernel_rfl) (fun _ _ _ h => h) (Or.inl ⟨by rfl, ?_⟩) (by assumption) ?_; rotate_left 1; (focus (intro w' hSw; (try dsimp only at hSw); go_simp; (try with_reducible rfl); done)); try simp only [Act.put, List.setIfInBounds_toArray, List.set_cons_zero, List.set_cons_succ, List.getElem_toArray, List.getElem_cons_zero, List.getElem_cons_succ])
        refine wpAnyH_ready (rs := [6]) (by kernel_rfl) (by simp) ?_
        refine AllReadyH.cons rfl (fun K hK => ?_) AllReadyH.nil
        go_simp
        go_at_call 26
        refine (next_any dk 100 _ (by decide) (by decide) D_3).mono ?_
        rintro e N4 ⟨u, rfl, u0, u1, D_4, gN4⟩
        have zN4 : P0.heap.size ≤ N4.heap.size := Nat.le_trans zN3 gN4.size
        have sN4 := gN4.size
        have NB_4 := NB_3.turn gN4 (by omega)
        have AB_4 := AB_3.turn gN4 (by omega)
        have G_4 := turn_trans G_3 gN4
        have hw : IntKind.i64.wrap (1 + u) = 1 + u := IntWalk.i64_in _ (by omega)
        go_wp2_with fail
        refine hK.out _ _ (names_get NB_4 i6) (fun hHeld2 => ?_)
        clear hK K hHeld
        have hHeld := hHeld2
        clear hHeld2
        try simp only [Act.put, List.setIfInBounds_toArray, List.set_cons_zero, List.set_cons_succ, List.getElem_toArray, List.getElem_cons_zero, List.getElem_cons_succ]
        (refine wpAnyH_take (i := 7) (v := ?_) rfl (by kernel_rfl) (by kernel_rfl) (by kernel_rfl) (fun _ _ _ h => h) (Or.inl ⟨by rfl, ?_⟩) (by assumption) ?_; rotate_left 1; (focus (intro w' hSw; (try dsimp only at hSw); go_simp; (try with_reducible rfl); done)); try simp only [Act.put, List.setIfInBounds_toArray, List.set_cons_zero, List.set_cons_succ, List.getElem_toArray, List.getElem_cons_zero, List.getElem_cons_succ])
        refine wpAnyH_ready (rs := [8, 10]) (by kernel_rfl) (by simp) ?_
        refine AllReadyH.cons rfl (fun K hK => ?_) (AllReadyH.cons rfl (fun K hK => ?_) AllReadyH.nil)
        · go_simp
          obtain ⟨N5, hN5⟩ : ∃ W', W' = World.alloc N4 (.cells #[.int .i64 10, .int .i64 15, .int .i64 25, .int .i64 30, .int .i64 50, .int .i64 (1 + u)] 3) := ⟨_, rfl⟩
          rw [← hN5]
          have bN5 : Below N4.heap.size N4 N5 := by rw [hN5]; exact (Below.refl _ _).alloc (Nat.le_refl _) _
          have IB_5 : Blk N5 N4.heap.size 3 #[.int .i64 10, .int .i64 15, .int .i64 25, .int .i64 30, .int .i64 50, .int .i64 (1 + u)] := by rw [hN5]; exact Blk.new _ _ _
          clear hN5
          have zN5 : P0.heap.size ≤ N5.heap.size := Nat.le_trans zN4 bN5.size
          have sN5 := bN5.size
          have NB_5 := NB_4.next bN5
          have AB_5 := AB_4.next bN5
          have G_5 := turn_next G_4 bN5
          have D_5 := D_4.next bN5
          have il := IB_5.lt
          refine hK.out _ _ (names_get NB_5 i6) (fun hHeld2 => ?_)
          clear hK K hHeld
          have hHeld := hHeld2
          clear hHeld2
          try simp only [Act.put, List.setIfInBounds_toArray, List.set_cons_zero, List.set_cons_succ, List.getElem_toArray, List.getElem_cons_zero, List.getElem_cons_succ]
          refine wpAnyH_ready (rs := [10]) (by kernel_rfl) (by simp) ?_
          refine AllReadyH.cons rfl (fun K hK => ?_) AllReadyH.nil
          go_simp
          go_at_call 26
          refine (next_any dk 6 _ (by decide) (by decide) D_5).mono ?_
          rintro e N6 ⟨vj, rfl, vj0, vj1, D_6, gN6⟩
          have zN6 : P0.heap.size ≤ N6.heap.size := Nat.le_trans zN5 gN6.size
          have sN6 := gN6.size
          have NB_6 := NB_5.turn gN6 (by omega)
          have IB_6 := IB_5.turn gN6 (by omega)
          have AB_6 := AB_5.turn gN6 (by omega)
          have G_6 := turn_trans G_5 gN6
          obtain ⟨j, rfl⟩ := Int.eq_ofNat_of_zero_le vj0
          have j6 : j < 6 := by omega
          have j7 : 0 ≤ (j : Int) ∧ (j : Int) < 6 := by omega
          clear vj0 vj1
          go_wp2_with fail
          refine hK.out _ _ (names_get NB_6 i6) (fun hHeld2 => ?_)
          clear hK K hHeld
          have hHeld := hHeld2
          clear hHeld2
          try simp only [Act.put, List.setIfInBounds_toArray, List.set_cons_zero, List.set_cons_succ, List.getElem_toArray, List.getElem_cons_zero, List.getElem_cons_succ]
          obtain ⟨pc, hpc, p1, p2⟩ := ints_get (u := u) u0 u1 j6
          have hHeld2 := And.intro hHeld ((IB_6.cell j).trans hpc)
          refine wpAnyH_mono (S' := fun w' => w'.cell? ⟨N1.heap.size, i, none⟩ = some (.string (preN i)) ∧ w'.cell? ⟨N4.heap.size, j, none⟩ = some (.int .i64 pc)) (fun _ h => h.1) _ _ _ _ ?_
          clear hHeld
          have hHeld := hHeld2
          clear hHeld2
          (refine wpAnyH_take (i := 11) (v := ?_) rfl (by kernel_rfl) (by kernel_rfl) (by kernel_rfl) (fun _ _ _ h => h) (Or.inl ⟨by rfl, ?_⟩) (by assumption) ?_; rotate_left 1; (focus (intro w' hSw; (try dsimp only at hSw); go_simp; (try with_reducible rfl); done)); try simp only [Act.put, List.setIfInBounds_toArray, List.set_cons_zero, List.set_cons_succ, List.getElem_toArray, List.getElem_cons_zero, List.getElem_cons_succ])
          (refine wpAnyH_take (i := 12) (v := ?_) rfl (by kernel_rfl) (by kernel_rfl) (by kernel_rfl) (fun _ _ _ h => h) (Or.inl ⟨by rfl, ?_⟩) (by assumption) ?_; rotate_left 1; (focus (intro w' hSw; (try dsimp only at hSw); go_simp; (try with_reducible rfl); done)); try simp only [Act.put, List.setIfInBounds_toArray, List.set_cons_zero, List.set_cons_succ, List.getElem_toArray, List.getElem_cons_zero, List.getElem_cons_succ])
          refine wpAnyH_ready (rs := [13]) (by kernel_rfl) (by simp) ?_
          refine AllReadyH.cons rfl (fun K hK => ?_) AllReadyH.nil
          go_simp
          go_at_call 46
          refine (get_any i i6 pc _ p1 p2).mono ?_
          rintro e N7 ⟨v, rfl, hro, bN7⟩
          obtain ⟨A, c, rfl, RA_7⟩ := hro.slice
          have zN7 : P0.heap.size ≤ N7.heap.size := Nat.le_trans zN6 bN7.size
          have sN7 := bN7.size
          have NB_7 := NB_6.next bN7
          have IB_7 := IB_6.next bN7
          have AB_7 := AB_6.next bN7
          have G_7 := turn_next G_6 bN7
          have D_7 := D_6.next bN7
          go_wp2_with fail
          refine hK.out _ _ ⟨(names_get NB_7 i6), ((IB_7.cell j).trans hpc)⟩ (fun hHeld2 => ?_)
          clear hK K hHeld
          have hHeld := hHeld2
          clear hHeld2
          try simp only [Act.put, List.setIfInBounds_toArray, List.set_cons_zero, List.set_cons_succ, List.getElem_toArray, List.getElem_cons_zero, List.getElem_cons_succ]
          (refine wpAnyH_take (i := 14) (v := ?_) rfl (by kernel_rfl) (by kernel_rfl) (by kernel_rfl) (fun _ _ _ h => h) (Or.inl ⟨by rfl, ?_⟩) (by assumption) ?_; rotate_left 1; (focus (intro w' hSw; (try dsimp only at hSw); go_simp; (try with_reducible rfl); done)); try simp only [Act.put, List.setIfInBounds_toArray, List.set_cons_zero, List.set_cons_succ, List.getElem_toArray, List.getElem_cons_zero, List.getElem_cons_succ])
          (refine wpAnyH_take (i := 15) (v := ?_) rfl (by kernel_rfl) (by kernel_rfl) (by kernel_rfl) (fun _ _ _ h => h) (Or.inl ⟨by rfl, ?_⟩) (by assumption) ?_; rotate_left 1; (focus (intro w' hSw; (try dsimp only at hSw); go_simp; (try with_reducible rfl); done)); try simp only [Act.put, List.setIfInBounds_toArray, List.set_cons_zero, List.set_cons_succ, List.getElem_toArray, List.getElem_cons_zero, List.getElem_cons_succ])
          (refine wpAnyH_take (i := 16) (v := ?_) rfl (by kernel_rfl) (by kernel_rfl) (by kernel_rfl) (fun _ _ _ h => h) (Or.inl ⟨by rfl, ?_⟩) (by assumption) ?_; rotate_left 1; (focus (intro w' hSw; (try dsimp only at hSw); go_simp; (try with_reducible rfl); done)); try simp only [Act.put, List.setIfInBounds_toArray, List.set_cons_zero, List.set_cons_succ, List.getElem_toArray, List.getElem_cons_zero, List.getElem_cons_succ])
          have q0 := AB_7.cell 0
          have q1 := AB_7.cell 1
          have q2 := AB_7.cell 2
          have y0 := AB_7.frozen 0
          have y1 := AB_7.frozen 1
          have y2 := AB_7.frozen 2
          simp at q0 q1 q2
          have Z := Lib.hid (pre_close (P0 := P0) (N := N7) (g := P0.heap.size) (dk := dk) (i := i) (x := Sh.pcF pc) (lo := N6.heap.size) (hi := N7.heap.size) i6 (pct_share p1 p2).1 (pct_share p1 p2).2.1 AB_7 G_7 D_7 RA_7 (Nat.le_refl _) (by assumption) (by omega) (by omega) (by omega))
          refine wpAnyH_ready (rs := [18]) (by kernel_rfl) (by simp) ?_
          refine AllReadyH.cons rfl (fun K hK => ?_) AllReadyH.nil
          go_simp
          try simp only [y0, y1, y2, Bool.false_eq_true, if_false]
          go_wp2_with fail
          refine hK.out _ _ ?_ (fun hHeld2 => ?_)
          · exact ⟨cell_store3 hHeld.1 (by omega) _ _ _, cell_store3 hHeld.2 (by omega) _ _ _⟩
          clear hK K hHeld
          have hHeld := hHeld2
          clear hHeld2
          try simp only [Act.put, List.setIfInBounds_toArray, List.set_cons_zero, List.set_cons_succ, List.getElem_toArray, List.getElem_cons_zero, List.getElem_cons_succ]
          (refine wpAnyH_take (i := 19) (v := ?_) rfl (by kernel_rfl) (by kernel_rfl) (by kernel_rfl) (fun _ _ _ h => h) (Or.inl ⟨by rfl, ?_⟩) (by assumption) ?_; rotate_left 1; (focus (intro w' hSw; (try dsimp only at hSw); go_simp; (try with_reducible rfl); done)); try simp only [Act.put, List.setIfInBounds_toArray, List.set_cons_zero, List.set_cons_succ, List.getElem_toArray, List.getElem_cons_zero, List.getElem_cons_succ])
          refine wpAnyH_done (by kernel_rfl) ?_ _
          clear hHeld
          go_wp2
          go_meet
          exact ⟨_, rfl, rfl, Z.out⟩
        · go_simp
          go_at_call 26
          refine (next_any dk 6 _ (by decide) (by decide) D_4).mono ?_
          rintro e N5 ⟨vj, rfl, vj0, vj1, D_5, gN5⟩
          have zN5 : P0.heap.size ≤ N5.heap.size := Nat.le_trans zN4 gN5.size
          have sN5 := gN5.size
          have NB_5 := NB_4.turn gN5 (by omega)
          have AB_5 := AB_4.turn gN5 (by omega)
          have G_5 := turn_trans G_4 gN5
          obtain ⟨j, rfl⟩ := Int.eq_ofNat_of_zero_le vj0
          have j6 : j < 6 := by omega
          have j7 : 0 ≤ (j : Int) ∧ (j : Int) < 6 := by omega
          clear vj0 vj1
          go_wp2_with fail
          refine hK.out _ _ (names_get NB_5 i6) (fun hHeld2 => ?_)
          clear hK K hHeld
          have hHeld := hHeld2
          clear hHeld2
          try simp only [Act.put, List.setIfInBounds_toArray, List.set_cons_zero, List.set_cons_succ, List.getElem_toArray, List.getElem_cons_zero, List.getElem_cons_succ]
          refine wpAnyH_ready (rs := [8]) (by kernel_rfl) (by simp) ?_
          refine AllReadyH.cons rfl (fun K hK => ?_) AllReadyH.nil
          go_simp
          obtain ⟨N6, hN6⟩ : ∃ W', W' = World.alloc N5 (.cells #[.int .i64 10, .int .i64 15, .int .i64 25, .int .i64 30, .int .i64 50, .int .i64 (1 + u)] 3) := ⟨_, rfl⟩
          rw [← hN6]
          have bN6 : Below N5.heap.size N5 N6 := by rw [hN6]; exact (Below.refl _ _).alloc (Nat.le_refl _) _
          have IB_6 : Blk N6 N5.heap.size 3 #[.int .i64 10, .int .i64 15, .int .i64 25, .int .i64 30, .int .i64 50, .int .i64 (1 + u)] := by rw [hN6]; exact Blk.new _ _ _
          clear hN6
          have zN6 : P0.heap.size ≤ N6.heap.size := Nat.le_trans zN5 bN6.size
          have sN6 := bN6.size
          have NB_6 := NB_5.next bN6
          have AB_6 := AB_5.next bN6
          have G_6 := turn_next G_5 bN6
          have D_6 := D_5.next bN6
          have il := IB_6.lt
          refine hK.out _ _ (names_get NB_6 i6) (fun hHeld2 => ?_)
          clear hK K hHeld
          have hHeld := hHeld2
          clear hHeld2
          try simp only [Act.put, List.setIfInBounds_toArray, List.set_cons_zero, List.set_cons_succ, List.getElem_toArray, List.getElem_cons_zero, List.getElem_cons_succ]
          obtain ⟨pc, hpc, p1, p2⟩ := ints_get (u := u) u0 u1 j6
          have hHeld2 := And.intro hHeld ((IB_6.cell j).trans hpc)
          refine wpAnyH_mono (S' := fun w' => w'.cell? ⟨N1.heap.size, i, none⟩ = some (.string (preN i)) ∧ w'.cell? ⟨N5.heap.size, j, none⟩ = some (.int .i64 pc)) (fun _ h => h.1) _ _ _ _ ?_
          clear hHeld
          have hHeld := hHeld2
          clear hHeld2
          (refine wpAnyH_take (i := 11) (v := ?_) rfl (by kernel_rfl) (by kernel_rfl) (by kernel_rfl) (fun _ _ _ h => h) (Or.inl ⟨by rfl, ?_⟩) (by assumption) ?_; rotate_left 1; (focus (intro w' hSw; (try dsimp only at hSw); go_simp; (try with_reducible rfl); done)); try simp only [Act.put, List.setIfInBounds_toArray, List.set_cons_zero, List.set_cons_succ, List.getElem_toArray, List.getElem_cons_zero, List.getElem_cons_succ])
          (refine wpAnyH_take (i := 12) (v := ?_) rfl (by kernel_rfl) (by kernel_rfl) (by kernel_rfl) (fun _ _ _ h => h) (Or.inl ⟨by rfl, ?_⟩) (by assumption) ?_; rotate_left 1; (focus (intro w' hSw; (try dsimp only at hSw); go_simp; (try with_reducible rfl); done)); try simp only [Act.put, List.setIfInBounds_toArray, List.set_cons_zero, List.set_cons_succ, List.getElem_toArray, List.getElem_cons_zero, List.getElem_cons_succ])
          refine wpAnyH_ready (rs := [13]) (by kernel_rfl) (by simp) ?_
          refine AllReadyH.cons rfl (fun K hK => ?_) AllReadyH.nil
          go_simp
          go_at_call 46
          refine (get_any i i6 pc _ p1 p2).mono ?_
          rintro e N7 ⟨v, rfl, hro, bN7⟩
          obtain ⟨A, c, rfl, RA_7⟩ := hro.slice
          have zN7 : P0.heap.size ≤ N7.heap.size := Nat.le_trans zN6 bN7.size
          have sN7 := bN7.size
          have NB_7 := NB_6.next bN7
          have IB_7 := IB_6.next bN7
          have AB_7 := AB_6.next bN7
          have G_7 := turn_next G_6 bN7
          have D_7 := D_6.next bN7
          go_wp2_with fail
          refine hK.out _ _ ⟨(names_get NB_7 i6), ((IB_7.cell j).trans hpc)⟩ (fun hHeld2 => ?_)
          clear hK K hHeld
          have hHeld := hHeld2
          clear hHeld2
          try simp only [Act.put, List.setIfInBounds_toArray, List.set_cons_zero, List.set_cons_succ, List.getElem_toArray, List.getElem_cons_zero, List.getElem_cons_succ]
          (refine wpAnyH_take (i := 14) (v := ?_) rfl (by kernel_rfl) (by kernel_rfl) (by kernel_rfl) (fun _ _ _ h => h) (Or.inl ⟨by rfl, ?_⟩) (by assumption) ?_; rotate_left 1; (focus (intro w' hSw; (try dsimp only at hSw); go_simp; (try with_reducible rfl); done)); try simp only [Act.put, List.setIfInBounds_toArray, List.set_cons_zero, List.set_cons_succ, List.getElem_toArray, List.getElem_cons_zero, List.getElem_cons_succ])
          (refine wpAnyH_take (i := 15) (v := ?_) rfl (by kernel_rfl) (by kernel_rfl) (by kernel_rfl) (fun _ _ _ h => h) (Or.inl ⟨by rfl, ?_⟩) (by assumption) ?_; rotate_left 1; (focus (intro w' hSw; (try dsimp only at hSw); go_simp; (try with_reducible rfl); done)); try simp only [Act.put, List.setIfInBounds_toArray, List.set_cons_zero, List.set_cons_succ, List.getElem_toArray, List.getElem_cons_zero, List.getElem_cons_succ])
          (refine wpAnyH_take (i := 16) (v := ?_) rfl (by kernel_rfl) (by kernel_rfl) (by kernel_rfl) (fun _ _ _ h => h) (Or.inl ⟨by rfl, ?_⟩) (by assumption) ?_; rotate_left 1; (focus (intro w' hSw; (try dsimp only at hSw); go_simp; (try with_reducible rfl); done)); try simp only [Act.put, List.setIfInBounds_toArray, List.set_cons_zero, List.set_cons_succ, List.getElem_toArray, List.getElem_cons_zero, List.getElem_cons_succ])
          have q0 := AB_7.cell 0
          have q1 := AB_7.cell 1
          have q2 := AB_7.cell 2
          have y0 := AB_7.frozen 0
          have y1 := AB_7.frozen 1
          have y2 := AB_7.frozen 2
          simp at q0 q1 q2
          have Z := Lib.hid (pre_close (P0 := P0) (N := N7) (g := P0.heap.size) (dk := dk) (i := i) (x := Sh.pcF pc) (lo := N6.heap.size) (hi := N7.heap.size) i6 (pct_share p1 p2).1 (pct_share p1 p2).2.1 AB_7 G_7 D_7 RA_7 (Nat.le_refl _) (by assumption) (by omega) (by omega) (by omega))
          refine wpAnyH_ready (rs := [18]) (by kernel_rfl) (by simp) ?_
          refine AllReadyH.cons rfl (fun K hK => ?_) AllReadyH.nil
          go_simp
          try simp only [y0, y1, y2, Bool.false_eq_true, if_false]
          go_wp2_with fail
          refine hK.out _ _ ?_ (fun hHeld2 => ?_)
          · exact ⟨cell_store3 hHeld.1 (by omega) _ _ _, cell_store3 hHeld.2 (by omega) _ _ _⟩
          clear hK K hHeld
          have hHeld := hHeld2
          clear hHeld2
          try simp only [Act.put, List.setIfInBounds_toArray, List.set_cons_zero, List.set_cons_succ, List.getElem_toArray, List.getElem_cons_zero, List.getElem_cons_succ]
          (refine wpAnyH_take (i := 19) (v := ?_) rfl (by kernel_rfl) (by kernel_rfl) (by kernel_rfl) (fun _ _ _ h => h) (Or.inl ⟨by rfl, ?_⟩) (by assumption) ?_; rotate_left 1; (focus (intro w' hSw; (try dsimp only at hSw); go_simp; (try with_reducible rfl); done)); try simp only [Act.put, List.setIfInBounds_toArray, List.set_cons_zero, List.set_cons_succ, List.getElem_toArray, List.getElem_cons_zero, List.getElem_cons_succ])
          refine wpAnyH_done (by kernel_rfl) ?_ _
          clear hHeld
          go_wp2
          go_meet
          exact ⟨_, rfl, rfl, Z.out⟩
    case rest =>
      obtain ⟨g, rfl, rfl, i, x, A, c, i6, x0, x1, hg, hb, hr, hd, hG⟩ := hcut
      have BR := Lib.hid (B1.out.turn hG (by omega))
      have HB := Lib.hid hb
      have HR := Lib.hid hr
      have HD := Lib.hid hd
      have HG := Lib.hid (turn_trans HG1.out hG)
      have HZ : Hid (w.heap.size < P0.heap.size) := Lib.hid (Nat.lt_of_lt_of_le (by have := B1.out.lt; exact this) (Nat.le_refl _))
      have q0 := hb.cell 0
      have q1 := hb.cell 1
      have q2 := hb.cell 2
      simp at q0 q1 q2
      have r0 := BR.out.cell 0
      have r1 := BR.out.cell 1
      have r2 := BR.out.cell 2
      have f0 := BR.out.frozen 0
      have f1 := BR.out.frozen 1
      have f2 := BR.out.frozen 2
      simp at r0 r1 r2
      have zg : g < wc.heap.size := hb.lt
      have zne : w.heap.size ≠ g := by have := HZ.out; omega
      clear hb hr hd hG
      by_cases hf : 0 < preF i
      · go_wp2_with fail
        refine (next_any dk 5 wc (by decide) (by decide) HD.out).mono ?_
        rintro e W2 ⟨u, rfl, u0, u1, hd2, hg2⟩
        have HB2 := Lib.hid (HB.out.turn hg2 (by omega))
        have BR2 := Lib.hid (BR.out.turn hg2 (by omega))
        have HR2 : Hid (RArr W2 (fun b => P0.heap.size ≤ b ∧ b ≠ g ∧ b < wc.heap.size) A c (preR x i)) := Lib.hid (HR.out.keep fun b o hb => World.cell?_of_block (hg2.block b hb.2.2 (fun e => by injection e with e; omega)))
        have HG2 := Lib.hid (turn_trans HG.out hg2)
        have HDK2 := Lib.hid hd2
        have hs2 := hg2.size
        clear q0 q1 q2 r0 r1 r2 f0 f1 f2 hd2 hg2
        have q0 := HB2.out.cell 0
        have q1 := HB2.out.cell 1
        have q2 := HB2.out.cell 2
        have z2 := HB2.out.frozen 2
        simp at q0 q1 q2
        have r0 := BR2.out.cell 0
        have r1 := BR2.out.cell 1
        have r2 := BR2.out.cell 2
        have f0 := BR2.out.frozen 0
        have f1 := BR2.out.frozen 1
        have f2 := BR2.out.frozen 2
        simp at r0 r1 r2
        have hw : IntKind.i64.wrap (1 + u) = 1 + u := IntWalk.i64_in _ (by omega)
        have hf64 : 1 ≤ 1 + u ∧ 1 + u ≤ 64 := by omega
        have CL := Lib.hid (cfg_close (w := w) (N := W2.setCell ⟨g, 2, none⟩ (.int .i64 (1 + u))) (dk := dk) (s := preN i) (f := 1 + u) (HR2.out.far (p := ⟨g, 2, none⟩) (fun h => h.2.1 rfl) (.int .i64 (1 + u))) (fun b hb => ⟨by have := HZ.out; have := hb.1; omega, by simp only [World.size_setCell]; have := hb.2.2; omega⟩)
          (turn_new (turn_trans (turn_below HB0.out) HG2.out) ⟨g, 2, none⟩ (by show w.heap.size ≤ g; have := HZ.out; omega) (.int .i64 (1 + u))) (wf_of_rules (pre_rules i6 x1)) (pre_size ⟨i, i6⟩) (pre_ok i6 x0 x1 (.inl ⟨hf, hf64⟩)) (HDK2.out.far (p := ⟨g, 2, none⟩) (by show dk < g; have := HZ.out; omega) _) hdl)
        clear HR2 HG2 HB2 HDK2
        go_wp2_with fail
        refine bodyPost_ret (v := .agg #[.string (preN i), .slice A (preR x i).length c, .int .i64 (1 + u)]) (by simp [results, Tryd.results25, go_sem, r0, r1, r2]) rfl CL.out
      · have CL := Lib.hid (cfg_close (w := w) (N := wc) (dk := dk) (s := preN i) (f := preF i) HR.out (fun b hb => ⟨by have := HZ.out; have := hb.1; omega, hb.2.2⟩) (turn_trans (turn_below HB0.out) HG.out) (wf_of_rules (pre_rules i6 x1)) (pre_size ⟨i, i6⟩) (pre_ok i6 x0 x1 (.inr ⟨hf, rfl⟩)) HD.out hdl)
        go_wp2_with fail
        refine bodyPost_ret (v := .agg #[.string (preN i), .slice A (preR x i).length c, .int .i64 (preF i)]) (by simp [results, Tryd.results25, go_sem, r0, r1, r2]) rfl CL.out
  · have HZ : Hid (w.heap.size < P0.heap.size) := Lib.hid B1.out.lt
    have HG0 := Lib.hid (turn_trans (turn_below HB0.out) HG1.out)
    clear HD0 HG1
    go_wp2_with fail
    refine (next_any dk 4 P0 (by decide) (by decide) HD1.out).mono ?_
    rintro e P1 ⟨u, rfl, u0, u1, hd2, hg2⟩
    have hw : IntKind.i64.wrap (1 + u) = 1 + u := IntWalk.i64_in _ (by omega)
    have B2 := Lib.hid (B1.out.turn hg2 (by omega))
    have HD2 := Lib.hid hd2
    have HG2 := Lib.hid (turn_trans HG0.out hg2)
    have HZ2 : Hid (w.heap.size < P1.heap.size) := Lib.hid B2.out.lt
    clear hd2 hg2 HD1 B1 HG0 HZ
    go_wp2_with fail
    obtain ⟨V, hV⟩ : ∃ V, V = P1.alloc (.cells #[.string ownN, .slice none 0 0, .int .i64 0] 27) := ⟨_, rfl⟩
    have hbV : Below P1.heap.size P1 V := by rw [hV]; exact (Below.refl _ _).alloc (Nat.le_refl _) _
    have hzV : P1.heap.size < V.heap.size := by rw [hV]; simp
    obtain ⟨n, hn⟩ := Int.eq_ofNat_of_zero_le (show 0 ≤ 1 + u by omega)
    have hn1 : 1 ≤ n := by omega
    have hn4 : n ≤ 4 := by omega
    have R0 : Hid (CfgR w V dk P1.heap.size n (.int .i64 0) V) := Lib.hid ⟨0, [], none, 0, 0, by omega, rfl, OwnR.nil n, fun _ => rfl, fun h => by omega, by rw [hV]; exact Blk.new _ _ _, ROwn.nil _ _, B2.out.next hbV, HD2.out.next hbV, turn_next HG2.out hbV, Nat.le_refl _⟩
    have HVV := Lib.hid (show V = P1.alloc (.cells #[.string { data := #[111, 119, 110] }, .slice none 0 0, .int .i64 0] 27) from hV)
    rw [← HVV.out]
    rw [hn]
    have hz1 := HZ2.out
    generalize P1.heap.size = cb at *
    clear hw hn u0 u1 hbV hV B2 HD2 HG2 HVV
    have hwn : IntKind.i64.wrap ((n : Int) - 1) = (n : Int) - 1 := IntWalk.i64_in _ (by omega)
    have hst := stF
    obtain ⟨i0, hi0, hz0, hzz1, hzz2⟩ := info_parts rule_info
    go_loopw [7] (CfgR w V dk cb n) (fun i _ => n - (intOf i).toNat)
    case atStart => exact R0.out
    case round =>
      obtain ⟨b, R, A, c, f, hbn, rfl, ho, hf0, hf1, hB, hO, hres, hd, hG, hz⟩ := hrel
      have HO := Lib.hid hO
      have HON := Lib.hid ho
      have HF0 := Lib.hid hf0
      have HF1 := Lib.hid hf1
      have HB := Lib.hid hB
      have HD := Lib.hid hd
      have HG := Lib.hid hG
      have HRS := Lib.hid hres
      clear hO ho hf0 hf1 hB hd hG hres
      by_cases hlt : b < n
      · have hlt2 : (b : Int) < n := by omega
        have LEN := Lib.hid HON.out.1
        have HLT := Lib.hid hlt
        have hzw := HRS.out.lt
        have hzc := HB.out.lt
        have hdw := HD.out.lt
        have hwb : IntKind.i64.wrap ((b : Int) + 1) = (b : Int) + 1 := IntWalk.i64_in _ (by omega)
        have hown : ∀ k, (Value.slice A R.length c).ownBlock = some k → k < wr.heap.size := fun k e => (World.ownsRow.lt HO.out k e).2
        go_wp2_with fail
        refine (next_any dk 3 wr (by decide) (by decide) HD.out).mono ?_
        rintro e X1 ⟨q, rfl, q0, q1, hd1, hg1⟩
        have HB1 := Lib.hid (HB.out.turn hg1 (by omega))
        have HRS1 := Lib.hid (HRS.out.turn hg1 (by omega))
        have HO1 : Hid (ROwn X1 V.heap.size (.slice A R.length c) R) := Lib.hid (HO.out.keep fun g hg hl => hg1.block g hl (fun e => by injection e with e; omega))
        have HG1 := Lib.hid (turn_trans HG.out hg1)
        have HD1 := Lib.hid hd1
        have hs1 := hg1.size
        have hz1' : V.heap.size ≤ X1.heap.size := Nat.le_trans hz hs1
        clear hd1 hg1 HB HRS HO HG HD hz
        go_wp2_with fail
        obtain ⟨X2, hX2⟩ : ∃ X, X = X1.alloc (.cells #[.float .f64 0, .int .i64 0, .int .i64 q, .int .i64 ((b : Int) + 1)] 63) := ⟨_, rfl⟩
        rw [← hX2]
        have hb2 : Below X1.heap.size X1 X2 := by rw [hX2]; exact (Below.refl _ _).alloc (Nat.le_refl _) _
        have BR2 : Hid (Blk X2 X1.heap.size 63 #[.float .f64 0, .int .i64 0, .int .i64 q, .int .i64 ((b : Int) + 1)]) := Lib.hid (by rw [hX2]; exact Blk.new _ _ _)
        have hzV2 : V.heap.size ≤ X2.heap.size := Nat.le_trans hz1' hb2.size
        have F2 : Hid (FB w V dk cb X1.heap.size R A c f X2) := Lib.hid ⟨HB1.out.next hb2, HO1.out.next hb2, HRS1.out.next hb2, HD1.out.next hb2, turn_next HG1.out hb2, hzV2, fun k e => by have := hown k e; omega⟩
        have OR : Hid (Ord w V dk cb X1.heap.size) := Lib.hid ⟨by omega, by omega, by omega, by omega⟩
        have hzr : X1.heap.size < X2.heap.size := BR2.out.lt
        have hdr : dk ≠ X1.heap.size := by omega
        clear hX2 hb2 HB1 HRS1 HO1 HG1 HD1 hown hzV2 hs1 hz1' hzw hzc hdw
        generalize X1.heap.size = rb at *
        refine (next_any dk 3 X2 (by decide) (by decide) F2.out.2.2.2.1).mono ?_
        rintro e X3 ⟨p, rfl, p0, p1, hd3, hg3⟩
        have BR3 := Lib.hid (BR2.out.turn hg3 (by omega))
        have F3 := Lib.hid (F2.out.deck OR.out hg3 hd3)
        clear hd3 hg3 BR2 F2 hzr
        go_upto_if 53 with fail
        go_cut [] (fun wx => ∃ x : Nat, x ≤ 4607182418800017408 ∧ Blk wx rb 63 #[.float .f64 x, .int .i64 0, .int .i64 q, .int .i64 ((b : Int) + 1)] ∧ FB w V dk cb rb R A c f wx)
        case first =>
          by_cases hp : 0 < p
          · go_wp2_with fail
            refine (share_any dk X3 F3.out.2.2.2.1).mono ?_
            rintro e X4 ⟨x, rfl, x0, x1, hd4, hg4⟩
            have BR4 := Lib.hid (BR3.out.turn hg4 (by omega))
            have F4 := Lib.hid (F3.out.deck OR.out hg4 hd4)
            clear hd4 hg4 BR3 F3
            have c0 := BR4.out.cell 0
            have z0 := BR4.out.frozen 0
            simp at c0
            go_wp2
            go_meet
            exact ⟨x, x1, BR4.out.set_ 0 _, F4.out.put OR.out 0 _⟩
          · go_wp2
            go_meet
            exact ⟨0, by decide, BR3.out, F3.out⟩
        case rest =>
          obtain ⟨x, hx, hbx, hfb⟩ := hcut
          have BX5 := Lib.hid hbx
          have F5 := Lib.hid hfb
          have HX := Lib.hid hx
          have ncr : cb ≠ rb := by have := OR.out.2.2; omega
          have nrc : rb ≠ cb := by omega
          have ndr : dk ≠ rb := by omega
          clear hbx hfb BR3 F3 p0 p1
          by_cases hlast : b + 1 = n
          · have l1 : ¬ (b : Int) < (n : Int) - 1 := by omega
            have l2 : ((b : Int) == (n : Int) - 1) = true := by simp; omega
            have e0 : (x = 0 ∧ FloatKind.f64.format.order x 0 = some .eq) ∨ (x ≠ 0 ∧ FloatKind.f64.format.order x 0 = some .gt) := by
              by_cases h0 : x = 0
              · subst h0; exact .inl ⟨rfl, Sh.fo_eq (by decide) (by decide) rfl⟩
              · exact .inr ⟨h0, Sh.fo_zero (x := x) (by omega) HX.out⟩
            have c0 := BX5.out.cell 0
            have c3 := BX5.out.cell 3
            have z3 := BX5.out.frozen 3
            simp at c0 c3
            have HLA := Lib.hid hlast
            have BX := Lib.hid (show Blk (wc.setCell ⟨rb, 3, none⟩ (.int .i64 (b : Int))) rb 63 #[.float .f64 x, .int .i64 0, .int .i64 q, .int .i64 (b : Int)] from BX5.out.set_ 3 _)
            have FX0 := Lib.hid (F5.out.put OR.out 3 (.int .i64 (b : Int)))
            have cq1 := F5.out.1.cell 1
            have cy1 := F5.out.1.frozen 1
            have c1 := BX5.out.cell 1
            have c2 := BX5.out.cell 2
            simp at cq1 c1 c2
            clear hlast
            rcases e0 with ⟨h0, e0⟩ | ⟨h0, e0⟩
            · subst h0
              go_wp2_with fail
              refine (next_any dk 6 _ (by decide) (by decide) FX0.out.2.2.2.1).mono ?_
              rintro e X6 ⟨u', rfl, u0, u1, hd6, hg6⟩
              have hw6 : IntKind.i64.wrap (1 + u') = 1 + u' := IntWalk.i64_in _ (by omega)
              have BX6 := Lib.hid (BX.out.turn hg6 (by omega))
              have F6 := Lib.hid (FX0.out.deck OR.out hg6 hd6)
              have BX := Lib.hid (BX6.out.far (p := ⟨cb, 2, none⟩) (by show rb ≠ cb; omega) (.int .i64 (1 + u')))
              have FX := Lib.hid (F6.out.full OR.out (1 + u'))
              have q2 := F6.out.1.cell 2
              have q1 := F6.out.1.cell 1
              have y2 := F6.out.1.frozen 2
              have y1 := F6.out.1.frozen 1
              have c0' := BX6.out.cell 0
              have c1' := BX6.out.cell 1
              have c2' := BX6.out.cell 2
              have c3' := BX6.out.cell 3
              simp at q1 q2 c0' c1' c2' c3'
              clear hd6 hg6 BX6 F6
              have BC := FX.out.1
              have p1 := BC.cell 1
              have g1 := BC.frozen 1
              simp at p1
              have HOX := Lib.hid (FX.out.2.1.next ((Below.refl _ _).alloc (Nat.le_refl _) (.cells #[.float .f64 0, .int .i64 0, .int .i64 q, .int .i64 (b : Int)] 63)))
              have hRn : R.length ≤ 4 := by have := LEN.out; omega
              have HVZ : Hid (V.heap.size ≤ (X6.setCell ⟨cb, 2, none⟩ (.int .i64 (1 + u'))).heap.size) := Lib.hid FX.out.2.2.2.2.2.1
              clear BC
              go_wp2_with (at_builtin; refine wpList_append_own _ rfl _ _ 25 rfl V.heap.size 63 i0 _ 4 32 Tryd.underlying25 hi0 hz0 hzz1 hzz2 rfl (by decide) (.slice A R.length c) R.length (rulCells R) rfl HOX.out ⟨X6.heap.size, 0, none⟩ 1 1 [.float .f64 0, .int .i64 0, .int .i64 q, .int .i64 (b : Int)] rfl rfl (new4 _ _ _ _ _ _ _ (by first | rfl | simp only [World.size_setCell])) (by simp [Value.oneCell']) (by simp only [maxLen]; omega) (by omega) (Nat.le_trans HVZ.out ((Below.refl _ (X6.setCell ⟨cb, 2, none⟩ (.int .i64 (1 + u')))).alloc (Nat.le_refl _) _).size) ?_)
              intro v1 w1 hown hgr _
              have HN1 : ROwn w1 V.heap.size v1 (R ++ [⟨0, 0, q, (b : Int)⟩]) := by
                unfold ROwn
                rw [List.length_append, rulCells_append]
                exact hown
              have BC1 := (FX.out.1.next ((Below.refl _ _).alloc (Nat.le_refl _) (.cells #[.float .f64 0, .int .i64 0, .int .i64 q, .int .i64 (b : Int)] 63))).turns hgr (fun k e => by have h8 := rowOwn_lo FX.out.2.1 k e; have h9 := OR.out.2.2.1; omega)
              have CS := Lib.hid (cfg_step (w := w) (V := V) (dk := dk) (n := n) HLT.out HON.out (by decide) (by decide) (by decide) (by omega) (by omega) (fun _ => rfl) (by rw [if_pos HLA.out]) (fun h => by have := HLA.out; omega) (fun _ => .inl ⟨rfl, by omega, by omega⟩) FX.out.1 FX.out.2.1 FX.out.2.2.1 FX.out.2.2.2.1 FX.out.2.2.2.2.1 FX.out.2.2.2.2.2.1 OR.out.2.2.1 OR.out.2.1 OR.out.1 hgr HN1)
              obtain ⟨A1, c1, rfl, _⟩ := HN1.slice
              have CS2 := CS.out
              rw [List.length_append, List.length_singleton] at CS2
              have CS := Lib.hid CS2
              clear CS2
              have u1 := BC1.cell 1
              have u2 := BC1.frozen 1
              simp at u1
              clear BC1 HN1 hown hgr p1 g1
              go_wp2_with fail
              exact ⟨CS.out, by simp [intOf]; omega⟩
            · skip
              have FX := FX0
              have HF := Lib.hid (HF0.out (by omega))
              have BC := FX.out.1
              have p1 := BC.cell 1
              have g1 := BC.frozen 1
              simp at p1
              have HOX := Lib.hid (FX.out.2.1.next ((Below.refl _ _).alloc (Nat.le_refl _) (.cells #[.float .f64 x, .int .i64 0, .int .i64 q, .int .i64 (b : Int)] 63)))
              have hRn : R.length ≤ 4 := by have := LEN.out; omega
              have HVZ : Hid (V.heap.size ≤ (wc.setCell ⟨rb, 3, none⟩ (.int .i64 (b : Int))).heap.size) := Lib.hid FX.out.2.2.2.2.2.1
              clear BC
              go_wp2_with (at_builtin; refine wpList_append_own _ rfl _ _ 25 rfl V.heap.size 63 i0 _ 4 32 Tryd.underlying25 hi0 hz0 hzz1 hzz2 rfl (by decide) (.slice A R.length c) R.length (rulCells R) rfl HOX.out ⟨wc.heap.size, 0, none⟩ 1 1 [.float .f64 x, .int .i64 0, .int .i64 q, .int .i64 (b : Int)] rfl rfl (new4 _ _ _ _ _ _ _ (by first | rfl | simp only [World.size_setCell])) (by simp [Value.oneCell']) (by simp only [maxLen]; omega) (by omega) (Nat.le_trans HVZ.out ((Below.refl _ (wc.setCell ⟨rb, 3, none⟩ (.int .i64 (b : Int)))).alloc (Nat.le_refl _) _).size) ?_)
              intro v1 w1 hown hgr _
              have HN1 : ROwn w1 V.heap.size v1 (R ++ [⟨x, 0, q, (b : Int)⟩]) := by
                unfold ROwn
                rw [List.length_append, rulCells_append]
                exact hown
              have BC1 := (FX.out.1.next ((Below.refl _ _).alloc (Nat.le_refl _) (.cells #[.float .f64 x, .int .i64 0, .int .i64 q, .int .i64 (b : Int)] 63))).turns hgr (fun k e => by have h8 := rowOwn_lo FX.out.2.1 k e; have h9 := OR.out.2.2.1; omega)
              have CS := Lib.hid (cfg_step (w := w) (V := V) (dk := dk) (n := n) HLT.out HON.out HX.out (by decide) (by decide) (by omega) (by omega) (fun _ => rfl) (by rw [if_pos HLA.out]) (fun h => by have := HLA.out; omega) (fun _ => .inr ⟨h0, HF.out⟩) FX.out.1 FX.out.2.1 FX.out.2.2.1 FX.out.2.2.2.1 FX.out.2.2.2.2.1 FX.out.2.2.2.2.2.1 OR.out.2.2.1 OR.out.2.1 OR.out.1 hgr HN1)
              obtain ⟨A1, c1, rfl, _⟩ := HN1.slice
              have CS2 := CS.out
              rw [List.length_append, List.length_singleton] at CS2
              have CS := Lib.hid CS2
              clear CS2
              have u1 := BC1.cell 1
              have u2 := BC1.frozen 1
              simp at u1
              clear BC1 HN1 hown hgr p1 g1
              go_wp2_with fail
              exact ⟨CS.out, by simp [intOf]; omega⟩
          · have l1 : (b : Int) < (n : Int) - 1 := by omega
            have l2 : ((b : Int) == (n : Int) - 1) = false := by simp; omega
            have HLA := Lib.hid hlast
            clear hlast
            go_wp2_with fail
            refine (next_any dk 3 wc (by decide) (by decide) F5.out.2.2.2.1).mono ?_
            rintro e X6 ⟨z, rfl, y0, y1, hd6, hg6⟩
            have BX6 := Lib.hid (BX5.out.turn hg6 (by omega))
            have F6 := Lib.hid (F5.out.deck OR.out hg6 hd6)
            clear hd6 hg6 BX5 F5
            by_cases hz0' : z = 0
            · subst hz0'
              go_wp2_with fail
              refine (next_any dk 2 X6 (by decide) (by decide) F6.out.2.2.2.1).mono ?_
              rintro e X7 ⟨s, rfl, s0, s1, hd7, hg7⟩
              have hw7 : IntKind.i64.wrap (1 + s) = 1 + s := IntWalk.i64_in _ (by omega)
              have BX7 := Lib.hid (BX6.out.turn hg7 (by omega))
              have F7 := Lib.hid (F6.out.deck OR.out hg7 hd7)
              have FX := Lib.hid (F7.out.put OR.out 1 (.int .i64 (1 + s)))
              have q1 := F7.out.1.cell 1
              have y1' := F7.out.1.frozen 1
              have c0 := BX7.out.cell 0
              have c1 := BX7.out.cell 1
              have c2 := BX7.out.cell 2
              have c3 := BX7.out.cell 3
              have z1 := BX7.out.frozen 1
              simp at q1 c0 c1 c2 c3
              clear hd7 hg7 BX7 F7 BX6 F6
              have BC := FX.out.1
              have p1 := BC.cell 1
              have g1 := BC.frozen 1
              simp at p1
              have HOX := Lib.hid (FX.out.2.1.next ((Below.refl _ _).alloc (Nat.le_refl _) (.cells #[.float .f64 x, .int .i64 (1 + s), .int .i64 q, .int .i64 ((b : Int) + 1)] 63)))
              have hRn : R.length ≤ 4 := by have := LEN.out; omega
              have HVZ : Hid (V.heap.size ≤ (X7.setCell ⟨rb, 1, none⟩ (.int .i64 (1 + s))).heap.size) := Lib.hid FX.out.2.2.2.2.2.1
              clear BC
              go_wp2_with (at_builtin; refine wpList_append_own _ rfl _ _ 25 rfl V.heap.size 63 i0 _ 4 32 Tryd.underlying25 hi0 hz0 hzz1 hzz2 rfl (by decide) (.slice A R.length c) R.length (rulCells R) rfl HOX.out ⟨X7.heap.size, 0, none⟩ 1 1 [.float .f64 x, .int .i64 (1 + s), .int .i64 q, .int .i64 ((b : Int) + 1)] rfl rfl (new4 _ _ _ _ _ _ _ (by first | rfl | simp only [World.size_setCell])) (by simp [Value.oneCell']) (by simp only [maxLen]; omega) (by omega) (Nat.le_trans HVZ.out ((Below.refl _ (X7.setCell ⟨rb, 1, none⟩ (.int .i64 (1 + s)))).alloc (Nat.le_refl _) _).size) ?_)
              intro v1 w1 hown hgr _
              have HN1 : ROwn w1 V.heap.size v1 (R ++ [⟨x, (1 + s), q, ((b : Int) + 1)⟩]) := by
                unfold ROwn
                rw [List.length_append, rulCells_append]
                exact hown
              have BC1 := (FX.out.1.next ((Below.refl _ _).alloc (Nat.le_refl _) (.cells #[.float .f64 x, .int .i64 (1 + s), .int .i64 q, .int .i64 ((b : Int) + 1)] 63))).turns hgr (fun k e => by have h8 := rowOwn_lo FX.out.2.1 k e; have h9 := OR.out.2.2.1; omega)
              have CS := Lib.hid (cfg_step (w := w) (V := V) (dk := dk) (n := n) HLT.out HON.out HX.out (by omega) (by omega) (by omega) (by omega) (fun h => absurd h HLA.out) (by rw [if_neg HLA.out]; go_num) (fun h => HF0.out (by omega)) (fun h => absurd h HLA.out) FX.out.1 FX.out.2.1 FX.out.2.2.1 FX.out.2.2.2.1 FX.out.2.2.2.2.1 FX.out.2.2.2.2.2.1 OR.out.2.2.1 OR.out.2.1 OR.out.1 hgr HN1)
              obtain ⟨A1, c1, rfl, _⟩ := HN1.slice
              have CS2 := CS.out
              rw [List.length_append, List.length_singleton] at CS2
              have CS := Lib.hid CS2
              clear CS2
              have u1 := BC1.cell 1
              have u2 := BC1.frozen 1
              simp at u1
              clear BC1 HN1 hown hgr p1 g1
              go_wp2_with fail
              exact ⟨CS.out, by simp [intOf]; omega⟩
            · have hzb : (z == 0) = false := by simpa using hz0'
              have FX := F6
              have c0 := BX6.out.cell 0
              have c1 := BX6.out.cell 1
              have c2 := BX6.out.cell 2
              have c3 := BX6.out.cell 3
              simp at c0 c1 c2 c3
              clear hz0'
              have BC := FX.out.1
              have p1 := BC.cell 1
              have g1 := BC.frozen 1
              simp at p1
              have HOX := Lib.hid (FX.out.2.1.next ((Below.refl _ _).alloc (Nat.le_refl _) (.cells #[.float .f64 x, .int .i64 0, .int .i64 q, .int .i64 ((b : Int) + 1)] 63)))
              have hRn : R.length ≤ 4 := by have := LEN.out; omega
              have HVZ : Hid (V.heap.size ≤ (X6).heap.size) := Lib.hid FX.out.2.2.2.2.2.1
              clear BC
              go_wp2_with (at_builtin; refine wpList_append_own _ rfl _ _ 25 rfl V.heap.size 63 i0 _ 4 32 Tryd.underlying25 hi0 hz0 hzz1 hzz2 rfl (by decide) (.slice A R.length c) R.length (rulCells R) rfl HOX.out ⟨X6.heap.size, 0, none⟩ 1 1 [.float .f64 x, .int .i64 0, .int .i64 q, .int .i64 ((b : Int) + 1)] rfl rfl (new4 _ _ _ _ _ _ _ (by first | rfl | simp only [World.size_setCell])) (by simp [Value.oneCell']) (by simp only [maxLen]; omega) (by omega) (Nat.le_trans HVZ.out ((Below.refl _ (X6)).alloc (Nat.le_refl _) _).size) ?_)
              intro v1 w1 hown hgr _
              have HN1 : ROwn w1 V.heap.size v1 (R ++ [⟨x, 0, q, ((b : Int) + 1)⟩]) := by
                unfold ROwn
                rw [List.length_append, rulCells_append]
                exact hown
              have BC1 := (FX.out.1.next ((Below.refl _ _).alloc (Nat.le_refl _) (.cells #[.float .f64 x, .int .i64 0, .int .i64 q, .int .i64 ((b : Int) + 1)] 63))).turns hgr (fun k e => by have h8 := rowOwn_lo FX.out.2.1 k e; have h9 := OR.out.2.2.1; omega)
              have CS := Lib.hid (cfg_step (w := w) (V := V) (dk := dk) (n := n) HLT.out HON.out HX.out (by decide) (by decide) (by omega) (by omega) (fun h => absurd h HLA.out) (by rw [if_neg HLA.out]; go_num) (fun h => HF0.out (by omega)) (fun h => absurd h HLA.out) FX.out.1 FX.out.2.1 FX.out.2.2.1 FX.out.2.2.2.1 FX.out.2.2.2.2.1 FX.out.2.2.2.2.2.1 OR.out.2.2.1 OR.out.2.1 OR.out.1 hgr HN1)
              obtain ⟨A1, c1, rfl, _⟩ := HN1.slice
              have CS2 := CS.out
              rw [List.length_append, List.length_singleton] at CS2
              have CS := Lib.hid CS2
              clear CS2
              have u1 := BC1.cell 1
              have u2 := BC1.frozen 1
              simp at u1
              clear BC1 HN1 hown hgr p1 g1
              go_wp2_with fail
              exact ⟨CS.out, by simp [intOf]; omega⟩
      · have hlt2 : ¬ (b : Int) < n := by omega
        obtain rfl : b = n := by omega
        obtain ⟨ok, wf⟩ := own_ok HON.out hn1 hn4 (HF1.out rfl)
        obtain ⟨_, _, e, hra⟩ := HO.out.slice
        injection e with e1 _ e2
        subst e1 e2
        have CL := Lib.hid (cfg_close (w := w) (N := wr) (dk := dk) (s := ownN) (f := f) hra (fun k hk => ⟨by have := hk.1; omega, hk.2⟩) HG.out wf (by decide) ok HD.out hdl)
        have q0 := HB.out.cell 0
        have q1 := HB.out.cell 1
        have q2 := HB.out.cell 2
        have r0 := HRS.out.cell 0
        have r1 := HRS.out.cell 1
        have r2 := HRS.out.cell 2
        have f0 := HRS.out.frozen 0
        have f1 := HRS.out.frozen 1
        have f2 := HRS.out.frozen 2
        simp at q0 q1 q2 r0 r1 r2
        clear hra ok wf
        go_wp2_with fail
        refine bodyPost_ret (v := .agg #[.string ownN, .slice A R.length c, .int .i64 f]) (by simp [results, Tryd.results25, go_sem, r0, r1, r2]) rfl CL.out
theorem cfg_any (dk : Nat) (w : World) (hd : DeckP w dk) : Calls Tryd.prog 25 #[.pointer (some ⟨dk, 0, none⟩)] w (CfgOf w dk) := (cfgD_any dk w hd).mono fun _ _ h => h.1
end Go.Proofs.YtmhbbjbbckdlbaaDoor
