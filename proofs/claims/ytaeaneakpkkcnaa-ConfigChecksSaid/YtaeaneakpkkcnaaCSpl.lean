/-
  spoilt: a configuration with one field changed, in new memory.
-/
import Derived.Test.YtaeaneakpkkcnaaCPre
import Derived.Laws.AppendOwnNone
import Derived.BigQuiet
namespace Go.Proofs.Ytaeaneakpkkcnaa
open Go.RowKit
set_option maxRecDepth 100000
set_option linter.unusedVariables false

/-- A configuration in new memory: its shares are words, its rules at most N. -/
def SpOf (N : Nat) (w : World) (e : Ending) (w' : World) : Prop := ∃ (s : ByteArray) (A : Option Addr) (c : Nat) (R : List Rl) (f : Int), e = .returned (.agg #[.string s, .slice A R.length c, .int .i64 f]) ∧ RArr w' (Rng w.heap.size w'.heap.size) A c R ∧ WfR R ∧ s.size ≤ 300 ∧ R.length ≤ N ∧ Below w.heap.size w w'
theorem sp_close {w V N : World} {M : Nat} {s : ByteArray} {v : Value} {R : List Rl} {f : Int} (hO : ROwn N V.heap.size v R) (h1 : w.heap.size + 1 < V.heap.size) (hB : Below w.heap.size w N) (hW : WfR R) (hs : s.size ≤ 300) (hn : R.length ≤ M) :
    SpOf M w (.returned (.agg #[.string s, v, .int .i64 f])) (((N.setCell ⟨w.heap.size + 1, 0, none⟩ (.string s)).setCell ⟨w.heap.size + 1, 1, none⟩ v).setCell ⟨w.heap.size + 1, 2, none⟩ (.int .i64 f)) := by
  obtain ⟨A, c, rfl, hr⟩ := hO.slice
  have hno : ¬ Rng V.heap.size N.heap.size (w.heap.size + 1) := fun h => by have := h.1; omega
  refine ⟨s, A, c, R, f, rfl, RArr.mono (P := Rng V.heap.size N.heap.size) (((hr.far hno _).far hno _).far hno _) fun b hb => ⟨by have := hb.1; omega, by simp only [World.size_setCell]; exact hb.2⟩, hW, hs, hn, ((hB.setCell (p := ⟨w.heap.size + 1, 0, none⟩) (Nat.le_succ _) _).setCell (p := ⟨w.heap.size + 1, 1, none⟩) (Nat.le_succ _) _).setCell (p := ⟨w.heap.size + 1, 2, none⟩) (Nat.le_succ _) _⟩
theorem WfR.nil : WfR [] := fun j r h => by simp at h
theorem WfR.append {R S : List Rl} (h : WfR R) (g : WfR S) : WfR (R ++ S) := fun j r hr => by
  rcases Nat.lt_or_ge j R.length with e | e
  · rw [List.getElem?_append_left e] at hr; exact h j r hr
  · rw [List.getElem?_append_right e] at hr; exact g _ r hr
theorem WfR.set {R : List Rl} (h : WfR R) {t : Nat} {y : Rl} (hy : y.s < 18446744073709551616) : WfR (R.set t y) := fun j r hr => by
  rw [List.getElem?_set] at hr
  split at hr
  · split at hr
    · injection hr with hr; subst hr; exact hy
    · cases hr
  · exact h j r hr
/-- Names and shares that spoilt takes. -/
def spN : Nat → ByteArray
  | 0 => { data := #[] }
  | 1 => { data := #[65] }
  | 2 => { data := #[97, 32, 98] }
  | 3 => { data := #[45, 97] }
  | 4 => { data := #[97, 98, 99, 100, 101, 102, 103, 104, 105, 106, 107, 108, 109, 110, 111, 112, 113] }
  | 5 => { data := #[97, 49, 45] }
  | _ => { data := #[97, 98, 99, 100, 101, 102, 103, 104, 105, 106, 107, 108, 109, 110, 111, 112] }
theorem spN_size : ∀ j : Fin 7, (spN j).size ≤ 300 := by decide
def spX : Nat → Nat
  | 0 => 9221120237041090561
  | 1 => 9218868437227405312
  | 2 => 13826050856027422720
  | 3 => 9223372036854775808
  | 4 => 4609434218613702656
  | 5 => 4607182418800017408
  | 6 => 0
  | _ => 1
theorem spX_lt : ∀ j : Fin 8, spX j < 18446744073709551616 := by decide
theorem spN_at {j : Nat} (hj : j < 7) : (#[.string (spN 0), .string (spN 1), .string (spN 2), .string (spN 3), .string (spN 4), .string (spN 5), .string (spN 6)] : Array Value)[j]? = some (.string (spN j)) := by
  rcases (by omega : j = 0 ∨ j = 1 ∨ j = 2 ∨ j = 3 ∨ j = 4 ∨ j = 5 ∨ j = 6) with rfl | rfl | rfl | rfl | rfl | rfl | rfl <;> rfl
theorem spX_at {j : Nat} (hj : j < 8) : (#[.float .f64 (spX 0), .float .f64 (spX 1), .float .f64 (spX 2), .float .f64 (spX 3), .float .f64 (spX 4), .float .f64 (spX 5), .float .f64 (spX 6), .float .f64 (spX 7)] : Array Value)[j]? = some (.float .f64 (spX j)) := by
  rcases (by omega : j = 0 ∨ j = 1 ∨ j = 2 ∨ j = 3 ∨ j = 4 ∨ j = 5 ∨ j = 6 ∨ j = 7) with rfl | rfl | rfl | rfl | rfl | rfl | rfl | rfl <;> rfl
/-- The state ahead of spoilt's switch: the box, the result, the rules of the call's own. -/
def SpAt (w V : World) (s : ByteArray) (v : Value) (R : List Rl) (f : Int) (X : World) : Prop :=
  Blk X w.heap.size 24 #[.string s, v, .int .i64 f] ∧ Blk X (w.heap.size + 1) 24 #[.string { data := #[] }, .slice none 0 0, .int .i64 0] ∧ ROwn X V.heap.size v R ∧ Below w.heap.size w X ∧ V.heap.size ≤ X.heap.size

section
variable {w V X X' : World} {s : ByteArray} {v : Value} {R : List Rl} {f : Int}
theorem SpAt.below (h : SpAt w V s v R f X) (hb : Below X.heap.size X X') : SpAt w V s v R f X' := by
  obtain ⟨h1, h2, h3, h4, h5⟩ := h
  exact ⟨h1.next hb, h2.next hb, h3.next hb, below_step h4 h4.size hb, Nat.le_trans h5 hb.size⟩
theorem SpAt.boxed (h : SpAt w V s v R f X) (hz : V.heap.size = w.heap.size + 1 + 1) (i : Nat) (u : Value) : Blk (X.setCell ⟨w.heap.size, i, none⟩ u) w.heap.size 24 (#[.string s, v, .int .i64 f].setIfInBounds i u) ∧ Blk (X.setCell ⟨w.heap.size, i, none⟩ u) (w.heap.size + 1) 24 #[.string { data := #[] }, .slice none 0 0, .int .i64 0] ∧
    ROwn (X.setCell ⟨w.heap.size, i, none⟩ u) V.heap.size v R ∧ Below w.heap.size w (X.setCell ⟨w.heap.size, i, none⟩ u) ∧ V.heap.size ≤ (X.setCell ⟨w.heap.size, i, none⟩ u).heap.size := by
  obtain ⟨h1, h2, h3, h4, h5⟩ := h
  have hlo := rowOwn_lo h3
  exact ⟨h1.set_ i u, h2.far (by show w.heap.size + 1 ≠ w.heap.size; omega) u, h3.far_ (fun k e => by have := hlo k e; show k ≠ w.heap.size; omega) u, h4.setCell (p := ⟨w.heap.size, i, none⟩) (Nat.le_refl _) u, by simp only [World.size_setCell]; exact h5⟩
theorem SpAt.name (h : SpAt w V s v R f X) (hz : V.heap.size = w.heap.size + 1 + 1) (s' : ByteArray) : SpAt w V s' v R f (X.setCell ⟨w.heap.size, 0, none⟩ (.string s')) := h.boxed hz 0 _
theorem SpAt.full (h : SpAt w V s v R f X) (hz : V.heap.size = w.heap.size + 1 + 1) (f' : Int) : SpAt w V s v R f' (X.setCell ⟨w.heap.size, 2, none⟩ (.int .i64 f')) := h.boxed hz 2 _
theorem SpAt.none_ (h : SpAt w V s v R f X) (hz : V.heap.size = w.heap.size + 1 + 1) : SpAt w V s (.slice none 0 0) [] f (X.setCell ⟨w.heap.size, 1, none⟩ (.slice none 0 0)) := by
  obtain ⟨h1, h2, _, h4, h5⟩ := h.boxed hz 1 (.slice none 0 0)
  exact ⟨h1, h2, ROwn.nil _ _, h4, h5⟩
theorem SpAt.rules (h : SpAt w V s v R f X) (hz : V.heap.size = w.heap.size + 1 + 1) {v' : Value} {R' : List Rl} (hg : X.grownBy X' v.ownBlock) (hn : ROwn X' V.heap.size v' R') : SpAt w V s v' R' f (X'.setCell ⟨w.heap.size, 1, none⟩ v') := by
  obtain ⟨h1, h2, h3, h4, h5⟩ := h
  have hlo := rowOwn_lo h3
  have hlo' := rowOwn_lo hn
  refine ⟨(h1.turns hg fun k e => by have := hlo k e; omega).set_ 1 _, (h2.turns hg fun k e => by have := hlo k e; omega).far (by show w.heap.size + 1 ≠ w.heap.size; omega) _, hn.far_ (fun k e => by have := hlo' k e; show k ≠ w.heap.size; omega) _, (h4.grown hg h4.size (fun k e => by have := hlo k e; omega)).setCell (p := ⟨w.heap.size, 1, none⟩) (Nat.le_refl _) _, by simp only [World.size_setCell]; exact Nat.le_trans h5 hg.size⟩
/-- A rule of the own row is changed. -/
theorem SpAt.rule (h : SpAt w V s v R f X) (hz : V.heap.size = w.heap.size + 1 + 1) {k : Nat} {r : Rl} (hr : R[k]? = some r) : ∃ g cap, v = .slice (some ⟨g, 0, none⟩) R.length cap ∧ V.heap.size ≤ g ∧ (∀ i, X.frozen? ⟨g, i, none⟩ = false) ∧ X.cell? ⟨g, k * 4, none⟩ = some (.float .f64 r.s) ∧ X.cell? ⟨g, k * 4 + 1, none⟩ = some (.int .i64 r.l) ∧ X.cell? ⟨g, k * 4 + 2, none⟩ = some (.int .i64 r.b) ∧ X.cell? ⟨g, k * 4 + 3, none⟩ = some (.int .i64 r.t) ∧
    ∀ (y : Rl) (d : Nat) (u : Value), d < 4 → ([Value.float .f64 r.s, .int .i64 r.l, .int .i64 r.b, .int .i64 r.t].set d u = [.float .f64 y.s, .int .i64 y.l, .int .i64 y.b, .int .i64 y.t]) → SpAt w V s v (R.set k y) f (X.setCell ⟨g, k * 4 + d, none⟩ u) := by
  obtain ⟨h1, h2, h3, h4, h5⟩ := h
  obtain ⟨g, cap, e, hb, hl, hf, c0, c1, c2, c3, hp⟩ := h3.put hr
  refine ⟨g, cap, e, hb, hf, c0, c1, c2, c3, fun y d u hd he => ⟨h1.far (by show w.heap.size ≠ g; omega) u, h2.far (by show w.heap.size + 1 ≠ g; omega) u, hp y d u hd he, h4.setCell (p := ⟨g, k * 4 + d, none⟩) (by show w.heap.size ≤ g; omega) u, by simp only [World.size_setCell]; exact h5⟩⟩
theorem SpAt.done (h : SpAt w V s v R f X) (hz : V.heap.size = w.heap.size + 1 + 1) {M : Nat} (hW : WfR R) (hs : s.size ≤ 300) (hn : R.length ≤ M) :
    SpOf M w (.returned (.agg #[.string s, v, .int .i64 f])) (((X.setCell ⟨w.heap.size + 1, 0, none⟩ (.string s)).setCell ⟨w.heap.size + 1, 1, none⟩ v).setCell ⟨w.heap.size + 1, 2, none⟩ (.int .i64 f)) :=
  sp_close h.2.2.1 (by omega) h.2.2.2.1 hW hs hn
theorem ROwn.src {B : Nat} (h : ROwn X B v R) (hn : 0 < R.length) : ∃ g c, v = .slice (some ⟨g, 0, none⟩) R.length c ∧ ∀ (j : Nat) (u : Value), (rulCells R)[j]? = some u → X.cell? ((⟨g, 0, none⟩ : Addr).add j) = some u := by
  have h0 := h
  obtain ⟨_, h⟩ := h
  rcases h with ⟨_, hz⟩ | ⟨g, cap, cur, rfl, _⟩
  · omega
  · exact ⟨g, cap, rfl, World.ownsRow.cells h0 rfl⟩
end

theorem sp_first {w V X : World} {s : ByteArray} {v0 v : Value} {R : List Rl} {f : Int} (h1 : Blk V w.heap.size 24 #[.string s, v0, .int .i64 f]) (h2 : Blk V (w.heap.size + 1) 24 #[.string { data := #[] }, .slice none 0 0, .int .i64 0]) (h4 : Below w.heap.size w V) (hz : V.heap.size = w.heap.size + 1 + 1)
    (hg : V.grownBy X none) (hn : ROwn X V.heap.size v R) : SpAt w V s v R f (X.setCell ⟨w.heap.size, 1, none⟩ v) := by
  have hlo := rowOwn_lo hn
  refine ⟨(h1.turns hg fun k e => by cases e).set_ 1 _, (h2.turns hg fun k e => by cases e).far (by show w.heap.size + 1 ≠ w.heap.size; omega) _, hn.far_ (fun k e => by have := hlo k e; show k ≠ w.heap.size; omega) _, (h4.grown hg h4.size (fun k e => by cases e)).setCell (p := ⟨w.heap.size, 1, none⟩) (Nat.le_refl _) _, by simp only [World.size_setCell]; exact hg.size⟩
set_option maxHeartbeats 16000000 in
theorem spoilt_any (s : ByteArray) (A : Option Addr) (c : Nat) (R : List Rl) (f what at_ by_ : Int) (w : World) (hR : RArr w (Lt w.heap.size) A c R) (hW : WfR R) (hs : s.size ≤ 300) (hn : R.length ≤ 64)
    (k0 : -9223372036854775808 ≤ what) (k1 : what ≤ 9223372036854775807) (a0 : -9223372036854775808 ≤ at_) (a1 : at_ ≤ 9223372036854775807) (b0 : -9223372036854775808 ≤ by_) (b1 : by_ ≤ 9223372036854775807) :
    Calls Try.prog 9 #[.agg #[.string s, .slice A R.length c, .int .i64 f], .int .i64 what, .int .i64 at_, .int .i64 by_] w (SpOf (4 * R.length) w) := by
  obtain ⟨i0, hi0, hz0, hzz1, hzz2⟩ := info_parts rule_info
  obtain ⟨U, hU⟩ : ∃ U, U = w.alloc (.cells #[.string s, .slice A R.length c, .int .i64 f] 24) := ⟨_, rfl⟩
  obtain ⟨V, hV⟩ : ∃ V, V = U.alloc (.cells #[.string { data := #[] }, .slice none 0 0, .int .i64 0] 24) := ⟨_, rfl⟩
  have hu : Below w.heap.size w U := by rw [hU]; exact (Below.refl _ _).alloc (Nat.le_refl _) _
  have hv : Below U.heap.size U V := by rw [hV]; exact (Below.refl _ _).alloc (Nat.le_refl _) _
  have zu : U.heap.size = w.heap.size + 1 := by rw [hU]; simp
  have zv : V.heap.size = w.heap.size + 1 + 1 := by rw [hV]; simp [zu]
  have BC := Lib.hid (show Blk V w.heap.size 24 #[.string s, .slice A R.length c, .int .i64 f] from Blk.next (by rw [hU]; exact Blk.new _ _ _) hv)
  have BRS := Lib.hid (show Blk V (w.heap.size + 1) 24 #[.string { data := #[] }, .slice none 0 0, .int .i64 0] by rw [hV, ← zu]; exact Blk.new _ _ _)
  have HB := Lib.hid (below_step hu hu.size hv)
  have HR := Lib.hid ((hR.next hu).next hv)
  have HVW := Lib.hid (show V = (w.alloc (.cells #[.string s, .slice A R.length c, .int .i64 f] 24)).alloc (.cells #[.string { data := #[] }, .slice none 0 0, .int .i64 0] 24) by rw [hV, hU])
  have HZV := Lib.hid zv
  have HWF := Lib.hid hW
  have p0 := BC.out.cell 0
  have p1 := BC.out.cell 1
  have p2 := BC.out.cell 2
  have z1 := BC.out.frozen 1
  simp at p0 p1 p2
  clear hR hU hV hu hv zu zv hW
  go_enter Try.func9, Try.ntmps9
  go_upto_region 1 with fail
  rw [← HVW.out]
  go_cut [] (fun wx => ∃ A1 c1, SpAt w V s (.slice A1 R.length c1) R f wx)
  case first =>
    rcases A with _ | ad
    · have hc := HR.out.2.2.1 rfl
      have hl := HR.out.1
      have hR0 : R = [] := List.length_eq_zero_iff.1 (by omega)
      subst hR0 hc
      have S1 := Lib.hid (sp_first BC.out BRS.out HB.out HZV.out (turn_below (Below.refl _ _)) (ROwn.nil V V.heap.size))
      go_wp2_with (at_builtin; refine wpList_append_own_none rfl _ _ 22 rfl V.heap.size 42 i0 4 Try.underlying22 hi0 (.slice none 0 0) 0 [] rfl (World.ownsRow_nil _ _ _ _) rfl ?_)
      go_meet
      exact ⟨none, 0, S1.out⟩
    · have HCS : Hid (∀ (j : Nat) (u : Value), (rulCells R)[j]? = some u → V.cell? (ad.add j) = some u) := Lib.hid fun j u hu => by
        have hj := gt_lt hu
        rw [rulCells_length] at hj
        obtain ⟨b, o, e, _⟩ := HR.out.2.2.2 (by omega)
        injection e with e
        subst e
        exact HR.out.cells j u hu
      go_wp2_with (at_builtin; refine wpList_append_own _ rfl _ _ 22 rfl V.heap.size 42 i0 _ 4 32 Try.underlying22 hi0 hz0 hzz1 hzz2 rfl (by decide) (.slice none 0 0) 0 [] rfl (World.ownsRow_nil _ _ _ _) ad R.length c (rulCells R) rfl (rulCells_length R) HCS.out (rulCells_one R) (by simp only [maxLen]; omega) (by omega) (Nat.le_refl _) ?_)
      intro v1 X hown hgr _
      try simp only [Nat.zero_add, List.nil_append] at hown
      have HO : ROwn X V.heap.size v1 R := hown
      have S1 := Lib.hid (sp_first BC.out BRS.out HB.out HZV.out hgr HO)
      obtain ⟨A1, c1, rfl, _⟩ := HO.slice
      have q1 := (BC.out.turns hgr fun k e => by cases e).cell 1
      have y1 := (BC.out.turns hgr fun k e => by cases e).frozen 1
      simp at q1
      clear hown hgr HO
      go_wp2_with fail
      go_meet
      exact ⟨A1, c1, S1.out⟩
  case rest =>
    obtain ⟨A1, c1, hS⟩ := hcut
    have S1 := Lib.hid hS
    have HLEN := Lib.hid hn
    clear hS p0 p1 p2 z1 HR BC BRS HB HVW
    have p0 := S1.out.1.cell 0
    have p1 := S1.out.1.cell 1
    have p2 := S1.out.1.cell 2
    have r0 := S1.out.2.1.cell 0
    have r1 := S1.out.2.1.cell 1
    have r2 := S1.out.2.1.cell 2
    have f0 := S1.out.2.1.frozen 0
    have f1 := S1.out.2.1.frozen 1
    have f2 := S1.out.2.1.frozen 2
    simp at p0 p1 p2 r0 r1 r2
    by_cases hR0 : R.length = 0
    · have CL := Lib.hid (S1.out.done HZV.out (M := 4 * R.length) HWF.out hs (by omega))
      have hR1 : ((R.length : Int) == 0) = true := by simp [hR0]
      clear hR0
      go_wp2_with fail
      refine bodyPost_ret (v := .agg #[.string s, .slice A1 R.length c1, .int .i64 f]) (by simp [results, Try.results9, go_sem, r0, r1, r2]) rfl CL.out
    · have hR1 : ((R.length : Int) == 0) = false := by rw [beq_eq_false_iff_ne]; omega
      have h0 := Int.emod_nonneg at_ (show (R.length : Int) ≠ 0 by omega)
      have h1 := Int.emod_lt_of_pos at_ (show 0 < (R.length : Int) by omega)
      have md := fun W => mod_any at_ R.length (by omega) (by omega) a0 a1 W
      obtain ⟨k, hk⟩ := Int.eq_ofNat_of_zero_le h0
      rw [hk] at md h0 h1
      have hkb : 0 ≤ (k : Int) ∧ (k : Int) < R.length := by omega
      obtain ⟨r, hr⟩ := gt_of (l := R) (j := k) (by omega)
      obtain ⟨g, cap, e, hg, _⟩ := S1.out.rule HZV.out hr
      injection e with e1 _ e2
      subst e1
      subst e2
      have HRR := Lib.hid hr
      clear hk h0 h1 hr hR0
      go_wp2_with fail
      go_quiet ((go_at_call 14; exact Calls.quiet_of_same ((md _).mono fun _ _ h => ⟨h.1, h.2.symm⟩)))
      clear md
      obtain ⟨Y, hY⟩ : ∃ Y, Y = wc.drewN nq := ⟨_, rfl⟩
      rw [← hY]
      have SY : Hid (SpAt w V s (.slice (some ⟨g, 0, none⟩) R.length c1) R f Y) := Lib.hid (S1.out.below (by rw [hY]; exact below_drewN (Below.refl _ _) nq))
      clear hY p0 p1 p2 r0 r1 r2 f0 f1 f2 S1
      have p0 := SY.out.1.cell 0
      have p1 := SY.out.1.cell 1
      have p2 := SY.out.1.cell 2
      have x0 := SY.out.1.frozen 0
      have x1 := SY.out.1.frozen 1
      have x2 := SY.out.1.frozen 2
      have r0 := SY.out.2.1.cell 0
      have r1 := SY.out.2.1.cell 1
      have r2 := SY.out.2.1.cell 2
      have f0 := SY.out.2.1.frozen 0
      have f1 := SY.out.2.1.frozen 1
      have f2 := SY.out.2.1.frozen 2
      simp at p0 p1 p2 r0 r1 r2
      have n1 : w.heap.size ≠ g := by have := HZV.out; omega
      have n2 : g ≠ w.heap.size := by omega
      have n3 : w.heap.size + 1 ≠ g := by have := HZV.out; omega
      have n4 : g ≠ w.heap.size + 1 := by omega
      have m0 := Int.emod_nonneg what (show (11 : Int) ≠ 0 by decide)
      have m1 := Int.emod_lt_of_pos what (show (0 : Int) < 11 by decide)
      have md := fun W => mod_any what 11 (by decide) (by decide) k0 k1 W
      obtain ⟨m, hm⟩ := Int.eq_ofNat_of_zero_le m0
      rw [hm] at md m0 m1
      have hmc : m = 0 ∨ m = 1 ∨ m = 2 ∨ m = 3 ∨ m = 4 ∨ m = 5 ∨ m = 6 ∨ m = 7 ∨ m = 8 ∨ m = 9 ∨ m = 10 := by omega
      clear hm m0 m1
      go_wp2_with fail
      refine (md _).mono ?_
      rintro e w' ⟨rfl, rfl⟩
      clear md
      rcases hmc with rfl | rfl | rfl | rfl | rfl | rfl | rfl | rfl | rfl | rfl | rfl
      · have m0 := Int.emod_nonneg by_ (show (7 : Int) ≠ 0 by decide)
        have m1 := Int.emod_lt_of_pos by_ (show (0 : Int) < 7 by decide)
        have mb := fun W => mod_any by_ 7 (by decide) (by decide) b0 b1 W
        obtain ⟨j, hj⟩ := Int.eq_ofNat_of_zero_le m0
        rw [hj] at mb m0 m1
        clear hj
        go_wp2_with fail
        obtain ⟨Z, hZ⟩ : ∃ Z, Z = Y.alloc (.cells #[.string { data := #[] }, .string { data := #[65] }, .string { data := #[97, 32, 98] }, .string { data := #[45, 97] }, .string { data := #[97, 98, 99, 100, 101, 102, 103, 104, 105, 106, 107, 108, 109, 110, 111, 112, 113] }, .string { data := #[97, 49, 45] }, .string { data := #[97, 98, 99, 100, 101, 102, 103, 104, 105, 106, 107, 108, 109, 110, 111, 112] }] 9) := ⟨_, rfl⟩
        rw [← hZ]
        have hbZ : Below Y.heap.size Y Z := by rw [hZ]; exact (Below.refl _ _).alloc (Nat.le_refl _) _
        have tz : Z.cell? ⟨Y.heap.size, j, none⟩ = some (.string (spN j)) := by rw [hZ]; exact ((Blk.new Y 9 _).cell j).trans (spN_at (by omega))
        have SZ := Lib.hid (SY.out.below hbZ)
        have hj2 : 0 ≤ (j : Int) ∧ (j : Int) < 7 := by omega
        clear hZ hbZ
        clear p0 p1 p2 x0 x1 x2 r0 r1 r2 f0 f1 f2
        have p0 := SZ.out.1.cell 0
        have p1 := SZ.out.1.cell 1
        have p2 := SZ.out.1.cell 2
        have x0 := SZ.out.1.frozen 0
        have x1 := SZ.out.1.frozen 1
        have x2 := SZ.out.1.frozen 2
        have r0 := SZ.out.2.1.cell 0
        have r1 := SZ.out.2.1.cell 1
        have r2 := SZ.out.2.1.cell 2
        have f0 := SZ.out.2.1.frozen 0
        have f1 := SZ.out.2.1.frozen 1
        have f2 := SZ.out.2.1.frozen 2
        simp at p0 p1 p2 r0 r1 r2
        have CL := Lib.hid ((SZ.out.name HZV.out (spN j)).done HZV.out (M := 4 * R.length) HWF.out (spN_size ⟨j, by omega⟩) (by omega))
        refine (mb _).mono ?_
        rintro e w' ⟨rfl, rfl⟩
        clear mb
        go_wp2_with fail
        exact bodyPost_ret (v := .agg #[.string (spN j), .slice (some ⟨g, 0, none⟩) R.length c1, .int .i64 f]) (by simp [results, Try.results9, go_sem, r0, r1, r2]) rfl CL.out
      · have CL := Lib.hid ((SY.out.none_ HZV.out).done HZV.out (M := 4 * R.length) WfR.nil hs (by simp))
        go_wp2_with fail
        exact bodyPost_ret (v := .agg #[.string s, .slice none 0 0, .int .i64 f]) (by simp [results, Try.results9, go_sem, r0, r1, r2]) rfl CL.out
      · obtain ⟨g1, cp1, e, hsrc⟩ := SY.out.2.2.1.src (by omega)
        injection e with e1 _ e2
        injection e1 with e1
        injection e1 with e1
        subst e1 e2
        have HSRC := Lib.hid hsrc
        clear hsrc
        go_wp2_with (at_builtin; refine wpList_append_own _ rfl _ _ 22 rfl V.heap.size 42 i0 _ 4 32 Try.underlying22 hi0 hz0 hzz1 hzz2 rfl (by decide) (.slice (some ⟨g, 0, none⟩) R.length c1) R.length (rulCells R) rfl SY.out.2.2.1 ⟨g, 0, none⟩ R.length c1 (rulCells R) rfl (by rw [rulCells_length]) HSRC.out (rulCells_one _) (by simp only [maxLen]; omega) (by omega) SY.out.2.2.2.2 ?_)
        intro v1 X1 hown hgr _
        have HO1 : ROwn X1 V.heap.size v1 (R ++ R) := by
          unfold ROwn
          rw [List.length_append, rulCells_append]
          exact hown
        have SX := Lib.hid (SY.out.rules HZV.out hgr HO1)
        obtain ⟨g2, cp2, rfl, _⟩ := HO1.src (by simp; omega)
        have hlo := rowOwn_lo SY.out.2.2.1
        have BX1 := SY.out.1.turns hgr (fun k e => by have := hlo k e; have := HZV.out; omega)
        have y1 := BX1.cell 1
        have t1 := BX1.frozen 1
        simp at y1
        clear hown hgr hlo HO1 p0 p1 p2 x0 x1 x2 r0 r1 r2 f0 f1 f2 BX1
        rw [List.length_append] at SX ⊢
        obtain ⟨X2, hX2⟩ : ∃ X2, X2 = X1.setCell ⟨w.heap.size, 1, none⟩ (.slice (some ⟨g2, 0, none⟩) (R.length + R.length) cp2) := ⟨_, rfl⟩
        rw [← hX2] at SX
        have HX2 := Lib.hid hX2
        clear hX2
        go_upto_region 12 with fail
        rw [← HX2.out]
        obtain ⟨g3, cp3, e, hsrc⟩ := SX.out.2.2.1.src (by simp; omega)
        rw [List.length_append] at e
        injection e with e1 _ e2
        injection e1 with e1
        injection e1 with e1
        subst e1 e2
        have HSRC2 := Lib.hid hsrc
        have HO2 : Hid (X2.ownsRow V.heap.size 42 4 (.slice (some ⟨g2, 0, none⟩) (R.length + R.length) cp2) (R.length + R.length) (rulCells (R ++ R))) := Lib.hid (by have h := SX.out.2.2.1; unfold ROwn at h; rwa [List.length_append] at h)
        have HL2 : Hid ((rulCells (R ++ R)).length = (R.length + R.length) * 4) := Lib.hid (by rw [rulCells_length, List.length_append])
        clear hsrc
        have p0 := SX.out.1.cell 0
        have p1 := SX.out.1.cell 1
        have p2 := SX.out.1.cell 2
        simp at p0 p1 p2
        go_wp2_with (at_builtin; refine wpList_append_own _ rfl _ _ 22 rfl V.heap.size 42 i0 _ 4 32 Try.underlying22 hi0 hz0 hzz1 hzz2 rfl (by decide) (.slice (some ⟨g2, 0, none⟩) (R.length + R.length) cp2) (R.length + R.length) (rulCells (R ++ R)) rfl HO2.out ⟨g2, 0, none⟩ (R.length + R.length) cp2 (rulCells (R ++ R)) rfl HL2.out HSRC2.out (rulCells_one _) (by simp only [maxLen]; omega) (by omega) SX.out.2.2.2.2 ?_)
        intro v3 X3 hown hgr _
        have HO3 : ROwn X3 V.heap.size v3 ((R ++ R) ++ (R ++ R)) := by
          unfold ROwn
          rw [List.length_append, List.length_append, rulCells_append]
          exact hown
        have CL := Lib.hid ((SX.out.rules HZV.out hgr HO3).done HZV.out (M := 4 * R.length) ((HWF.out.append HWF.out).append (HWF.out.append HWF.out)) hs (by simp only [List.length_append]; omega))
        obtain ⟨g4, cp4, rfl, _⟩ := HO3.src (by simp; omega)
        have hlo := rowOwn_lo SX.out.2.2.1
        have hlo4 := rowOwn_lo HO3
        have hg4 : V.heap.size ≤ g4 := hlo4 g4 rfl
        have n5 : w.heap.size ≠ g4 := by have := HZV.out; omega
        have n6 : w.heap.size + 1 ≠ g4 := by have := HZV.out; omega
        have BX3 := SX.out.1.turns hgr (fun k e => by have := hlo k e; have := HZV.out; omega)
        have BR3 := SX.out.2.1.turns hgr (fun k e => by have := hlo k e; have := HZV.out; omega)
        have y0 := BX3.cell 0
        have y1 := BX3.cell 1
        have y2 := BX3.cell 2
        have t1 := BX3.frozen 1
        have r0 := BR3.cell 0
        have r1 := BR3.cell 1
        have r2 := BR3.cell 2
        have f0 := BR3.frozen 0
        have f1 := BR3.frozen 1
        have f2 := BR3.frozen 2
        simp at y0 y1 y2 r0 r1 r2
        have hlen : ((R ++ R) ++ (R ++ R)).length = R.length + R.length + (R.length + R.length) := by simp only [List.length_append]
        rw [hlen] at CL
        rw [hlen]
        clear hown hgr hlo HO3 p0 p1 p2 BX3 BR3 hlo4 hlen
        go_wp2_with fail
        exact bodyPost_ret (v := .agg #[.string s, .slice (some ⟨g4, 0, none⟩) (R.length + R.length + (R.length + R.length)) cp4, .int .i64 f]) (by simp [results, Try.results9, go_sem, r0, r1, r2]) rfl CL.out
      · have m0 := Int.emod_nonneg by_ (show (8 : Int) ≠ 0 by decide)
        have m1 := Int.emod_lt_of_pos by_ (show (0 : Int) < 8 by decide)
        have mb := fun W => mod_any by_ 8 (by decide) (by decide) b0 b1 W
        obtain ⟨j, hj⟩ := Int.eq_ofNat_of_zero_le m0
        rw [hj] at mb m0 m1
        clear hj
        go_wp2_with fail
        refine (Sh.nan_any _).mono ?_
        rintro e w' ⟨rfl, rfl⟩
        go_wp2_with fail
        refine (Sh.inf_up _).mono ?_
        rintro e w' ⟨rfl, rfl⟩
        go_wp2_with fail
        refine (Sh.copysign_zero _).mono ?_
        rintro e w' ⟨rfl, rfl⟩
        have hst := stF
        go_wp2_with fail
        obtain ⟨Z, hZ⟩ : ∃ Z, Z = Y.alloc (.cells #[.float .f64 9221120237041090561, .float .f64 9218868437227405312, .float .f64 13826050856027422720, .float .f64 9223372036854775808, .float .f64 4609434218613702656, .float .f64 4607182418800017408, .float .f64 0, .float .f64 1] 40) := ⟨_, rfl⟩
        rw [← hZ]
        have hbZ : Below Y.heap.size Y Z := by rw [hZ]; exact (Below.refl _ _).alloc (Nat.le_refl _) _
        have tz : Z.cell? ⟨Y.heap.size, j, none⟩ = some (.float .f64 (spX j)) := by rw [hZ]; exact ((Blk.new Y 40 _).cell j).trans (spX_at (by omega))
        have SZ := Lib.hid (SY.out.below hbZ)
        have hj2 : 0 ≤ (j : Int) ∧ (j : Int) < 8 := by omega
        clear hZ hbZ
        clear p0 p1 p2 x0 x1 x2 r0 r1 r2 f0 f1 f2
        have p0 := SZ.out.1.cell 0
        have p1 := SZ.out.1.cell 1
        have p2 := SZ.out.1.cell 2
        have x0 := SZ.out.1.frozen 0
        have x1 := SZ.out.1.frozen 1
        have x2 := SZ.out.1.frozen 2
        have r0 := SZ.out.2.1.cell 0
        have r1 := SZ.out.2.1.cell 1
        have r2 := SZ.out.2.1.cell 2
        have f0 := SZ.out.2.1.frozen 0
        have f1 := SZ.out.2.1.frozen 1
        have f2 := SZ.out.2.1.frozen 2
        simp at p0 p1 p2 r0 r1 r2
        obtain ⟨g', cap', e, hg, hfz, d0, d1, d2, d3, hput⟩ := SZ.out.rule HZV.out HRR.out
        injection e with e1 _ e2
        injection e1 with e1
        injection e1 with e1
        subst e1 e2
        have S2 := Lib.hid (show SpAt w V s (.slice (some ⟨g, 0, none⟩) R.length c1) (R.set k ⟨spX j, r.l, r.b, r.t⟩) f (Z.setCell ⟨g, k * 4, none⟩ (.float .f64 (spX j))) from hput ⟨spX j, r.l, r.b, r.t⟩ 0 _ (by decide) rfl)
        have CL := Lib.hid (S2.out.done HZV.out (M := 4 * R.length) (HWF.out.set (spX_lt ⟨j, by omega⟩)) hs (by rw [List.length_set]; omega))
        have fz := hfz (k * 4)
        clear hput hfz
        refine (mb _).mono ?_
        rintro e w' ⟨rfl, rfl⟩
        clear mb
        go_wp2_with fail
        exact bodyPost_ret (v := .agg #[.string s, .slice (some ⟨g, 0, none⟩) R.length c1, .int .i64 f]) (by simp [results, Try.results9, go_sem, r0, r1, r2]) rfl CL.out
      · have m0 := Int.emod_nonneg by_ (show (68 : Int) ≠ 0 by decide)
        have m1 := Int.emod_lt_of_pos by_ (show (0 : Int) < 68 by decide)
        have mb := fun W => mod_any by_ 68 (by decide) (by decide) b0 b1 W
        obtain ⟨j, hj⟩ := Int.eq_ofNat_of_zero_le m0
        rw [hj] at mb m0 m1
        clear hj
        have hws : IntKind.i64.wrap ((j : Int) - 2) = (j : Int) - 2 := IntWalk.i64_in _ (by omega)
        obtain ⟨g', cap', e, hg, hfz, d0, d1, d2, d3, hput⟩ := SY.out.rule HZV.out HRR.out
        injection e with e1 _ e2
        injection e1 with e1
        injection e1 with e1
        subst e1 e2
        have S2 := Lib.hid (show SpAt w V s (.slice (some ⟨g, 0, none⟩) R.length c1) (R.set k ⟨r.s, (j : Int) - 2, r.b, r.t⟩) f (Y.setCell ⟨g, k * 4 + 1, none⟩ (.int .i64 ((j : Int) - 2))) from hput ⟨r.s, (j : Int) - 2, r.b, r.t⟩ 1 _ (by decide) rfl)
        have CL := Lib.hid (S2.out.done HZV.out (M := 4 * R.length) (HWF.out.set (HWF.out k r HRR.out)) hs (by rw [List.length_set]; omega))
        have fz := hfz (k * 4 + 1)
        clear hput hfz
        go_wp2_with fail
        refine (mb _).mono ?_
        rintro e w' ⟨rfl, rfl⟩
        clear mb
        go_wp2_with fail
        exact bodyPost_ret (v := .agg #[.string s, .slice (some ⟨g, 0, none⟩) R.length c1, .int .i64 f]) (by simp [results, Try.results9, go_sem, r0, r1, r2]) rfl CL.out
      · have m0 := Int.emod_nonneg by_ (show (68 : Int) ≠ 0 by decide)
        have m1 := Int.emod_lt_of_pos by_ (show (0 : Int) < 68 by decide)
        have mb := fun W => mod_any by_ 68 (by decide) (by decide) b0 b1 W
        obtain ⟨j, hj⟩ := Int.eq_ofNat_of_zero_le m0
        rw [hj] at mb m0 m1
        clear hj
        have hws : IntKind.i64.wrap ((j : Int) - 2) = (j : Int) - 2 := IntWalk.i64_in _ (by omega)
        obtain ⟨g', cap', e, hg, hfz, d0, d1, d2, d3, hput⟩ := SY.out.rule HZV.out HRR.out
        injection e with e1 _ e2
        injection e1 with e1
        injection e1 with e1
        subst e1 e2
        have S2 := Lib.hid (show SpAt w V s (.slice (some ⟨g, 0, none⟩) R.length c1) (R.set k ⟨r.s, r.l, (j : Int) - 2, r.t⟩) f (Y.setCell ⟨g, k * 4 + 2, none⟩ (.int .i64 ((j : Int) - 2))) from hput ⟨r.s, r.l, (j : Int) - 2, r.t⟩ 2 _ (by decide) rfl)
        have CL := Lib.hid (S2.out.done HZV.out (M := 4 * R.length) (HWF.out.set (HWF.out k r HRR.out)) hs (by rw [List.length_set]; omega))
        have fz := hfz (k * 4 + 2)
        clear hput hfz
        go_wp2_with fail
        refine (mb _).mono ?_
        rintro e w' ⟨rfl, rfl⟩
        clear mb
        go_wp2_with fail
        exact bodyPost_ret (v := .agg #[.string s, .slice (some ⟨g, 0, none⟩) R.length c1, .int .i64 f]) (by simp [results, Try.results9, go_sem, r0, r1, r2]) rfl CL.out
      · have m0 := Int.emod_nonneg by_ (show (6 : Int) ≠ 0 by decide)
        have m1 := Int.emod_lt_of_pos by_ (show (0 : Int) < 6 by decide)
        have mb := fun W => mod_any by_ 6 (by decide) (by decide) b0 b1 W
        obtain ⟨j, hj⟩ := Int.eq_ofNat_of_zero_le m0
        rw [hj] at mb m0 m1
        clear hj
        have hws : IntKind.i64.wrap ((j : Int) - 1) = (j : Int) - 1 := IntWalk.i64_in _ (by omega)
        obtain ⟨g', cap', e, hg, hfz, d0, d1, d2, d3, hput⟩ := SY.out.rule HZV.out HRR.out
        injection e with e1 _ e2
        injection e1 with e1
        injection e1 with e1
        subst e1 e2
        have S2 := Lib.hid (show SpAt w V s (.slice (some ⟨g, 0, none⟩) R.length c1) (R.set k ⟨r.s, r.l, r.b, (j : Int) - 1⟩) f (Y.setCell ⟨g, k * 4 + 3, none⟩ (.int .i64 ((j : Int) - 1))) from hput ⟨r.s, r.l, r.b, (j : Int) - 1⟩ 3 _ (by decide) rfl)
        have CL := Lib.hid (S2.out.done HZV.out (M := 4 * R.length) (HWF.out.set (HWF.out k r HRR.out)) hs (by rw [List.length_set]; omega))
        have fz := hfz (k * 4 + 3)
        clear hput hfz
        go_wp2_with fail
        refine (mb _).mono ?_
        rintro e w' ⟨rfl, rfl⟩
        clear mb
        go_wp2_with fail
        exact bodyPost_ret (v := .agg #[.string s, .slice (some ⟨g, 0, none⟩) R.length c1, .int .i64 f]) (by simp [results, Try.results9, go_sem, r0, r1, r2]) rfl CL.out
      · have m0 := Int.emod_nonneg by_ (show (68 : Int) ≠ 0 by decide)
        have m1 := Int.emod_lt_of_pos by_ (show (0 : Int) < 68 by decide)
        have mb := fun W => mod_any by_ 68 (by decide) (by decide) b0 b1 W
        obtain ⟨j, hj⟩ := Int.eq_ofNat_of_zero_le m0
        rw [hj] at mb m0 m1
        clear hj
        have hws : IntKind.i64.wrap ((j : Int) - 2) = (j : Int) - 2 := IntWalk.i64_in _ (by omega)
        have CL := Lib.hid ((SY.out.full HZV.out ((j : Int) - 2)).done HZV.out (M := 4 * R.length) HWF.out hs (by omega))
        go_wp2_with fail
        refine (mb _).mono ?_
        rintro e w' ⟨rfl, rfl⟩
        clear mb
        go_wp2_with fail
        exact bodyPost_ret (v := .agg #[.string s, .slice (some ⟨g, 0, none⟩) R.length c1, .int .i64 ((j : Int) - 2)]) (by simp [results, Try.results9, go_sem, r0, r1, r2]) rfl CL.out
      · have CL := Lib.hid ((SY.out.full HZV.out 0).done HZV.out (M := 4 * R.length) HWF.out hs (by omega))
        go_wp2_with fail
        exact bodyPost_ret (v := .agg #[.string s, .slice (some ⟨g, 0, none⟩) R.length c1, .int .i64 0]) (by simp [results, Try.results9, go_sem, r0, r1, r2]) rfl CL.out
      · have CL := Lib.hid (SY.out.done HZV.out (M := 4 * R.length) HWF.out hs (by omega))
        go_wp2_with fail
        exact bodyPost_ret (v := .agg #[.string s, .slice (some ⟨g, 0, none⟩) R.length c1, .int .i64 f]) (by simp [results, Try.results9, go_sem, r0, r1, r2]) rfl CL.out
      · have CL := Lib.hid (SY.out.done HZV.out (M := 4 * R.length) HWF.out hs (by omega))
        go_wp2_with fail
        exact bodyPost_ret (v := .agg #[.string s, .slice (some ⟨g, 0, none⟩) R.length c1, .int .i64 f]) (by simp [results, Try.results9, go_sem, r0, r1, r2]) rfl CL.out
end Go.Proofs.Ytaeaneakpkkcnaa
