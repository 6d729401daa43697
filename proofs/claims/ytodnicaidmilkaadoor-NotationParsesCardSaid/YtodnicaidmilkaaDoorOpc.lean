/-
  What a list of numbers and a configuration that came in give.
-/
import Derived.Test.YtodnicaidmilkaaDoorCRow
import Derived.Test.YtodnicaidmilkaaDoorCDk
import Derived.Lib.SmallJoins
import Derived.ChangeSlices
import Derived.ChangeMaps5
import Derived.Deep.Slices
import Derived.Deep.Fields
import Derived.Laws.Cover2
namespace Go.Proofs.YtodnicaidmilkaaDoor
open Go.ChangeShapes Go.WideShapes Go.ChangeAt Go.RowKit Go.Deep Go.Joins
set_option maxRecDepth 100000
set_option linter.unusedVariables false

section
variable {H : Type} {enc : TypeId × Value → H} {W : World} {r : Reach} {b0 base : Nat} {held : Bool}

theorem list_in {x : Addr} {len cap : Nat} {zs : List Int} (hl : len ≤ cap) (hm : cap ≤ maxLen) (hz : zs.length = cap) (hc : ∀ i, i < zs.length → W.cell? (x.add i) = some (.int .i64 (zs.getD i 0))) (hw : ∀ n ∈ zs, (Lit.int .i64 n).wf = true) :
    ListP W W.heap.size (some x) len cap := by
  refine ⟨hl, hm, fun j hj => ?_⟩
  obtain ⟨b, o, s⟩ := x
  have h00 := hc 0 (by omega)
  have hs : s = none := by simpa [Addr.add] using World.cell?_spot h00
  subst hs
  have h0 := hc j (by omega)
  rw [add_at] at h0
  refine ⟨b, o, _, rfl, cell_lt h0, h0, ?_⟩
  refine bounds_i64 (hw _ ?_)
  have hjl : j < zs.length := by omega
  have hg : zs.getD j 0 = zs[j] := by simp [List.getD_eq_getElem?_getD, List.getElem?_eq_getElem hjl]
  rw [hg]
  exact List.getElem_mem _
theorem open_list {v : Value} {d : DataW H} {p : List MemPlace} (hv : Value.okWide Tryd.prog W r b0 25 v) (h : DataW.Trod enc Tryd.prog W base (fun _ => true) held 25 v d p) :
    ∃ (A : Option Addr) (n c : Nat), v = .slice A n c ∧ ListP W W.heap.size A n c := by
  obtain ⟨A, n, c, rfl⟩ := okWide_slice Tryd.underlying25 hv
  refine ⟨A, n, c, rfl, ?_⟩
  obtain ⟨fuel, hf⟩ := h
  rcases open_ints Tryd.underlying25 Tryd.underlying3 (by kernel_rfl) hf with ⟨hcs, _⟩ | ⟨x, l, c2, zs, hcs, _, hl, hm, hz, _, hcell, hw⟩
  · simp [Value.cells] at hcs
    obtain ⟨rfl, rfl, rfl⟩ := hcs
    exact ⟨Nat.le_refl _, by simp, fun j hj => absurd hj (by omega)⟩
  · simp [Value.cells] at hcs
    obtain ⟨rfl, rfl, rfl⟩ := hcs
    exact list_in hl hm (by simpa using hz) hcell hw
theorem rules_in {x : Addr} {len cap : Nat} (hl : len ≤ cap) (hm : cap ≤ maxLen) (hi : ∀ i, i < len → ∃ (s : Nat) (a b c : Int), s < 18446744073709551616 ∧ W.cell? (x.add (i * 4)) = some (.float .f64 s) ∧ W.cell? (x.add (i * 4 + 1)) = some (.int .i64 a) ∧ W.cell? (x.add (i * 4 + 2)) = some (.int .i64 b) ∧ W.cell? (x.add (i * 4 + 3)) = some (.int .i64 c)) :
    ∃ R : List Rl, R.length = len ∧ RArr W (Lt W.heap.size) (some x) cap R ∧ WfR R := by
  have hf : ∀ i, ∃ f : Rl, i < len → f.s < 18446744073709551616 ∧ W.cell? (x.add (i * 4)) = some (.float .f64 f.s) ∧ W.cell? (x.add (i * 4 + 1)) = some (.int .i64 f.l) ∧ W.cell? (x.add (i * 4 + 2)) = some (.int .i64 f.b) ∧ W.cell? (x.add (i * 4 + 3)) = some (.int .i64 f.t) := fun i => by
    by_cases h : i < len
    · obtain ⟨s, a, b, c, h0, h1, h2, h3, h4⟩ := hi i h
      exact ⟨⟨s, a, b, c⟩, fun _ => ⟨h0, h1, h2, h3, h4⟩⟩
    · exact ⟨⟨0, 0, 0, 0⟩, fun h' => absurd h' h⟩
  obtain ⟨F, hF⟩ : ∃ F : Nat → Rl, ∀ i, i < len → (F i).s < 18446744073709551616 ∧ W.cell? (x.add (i * 4)) = some (.float .f64 (F i).s) ∧ W.cell? (x.add (i * 4 + 1)) = some (.int .i64 (F i).l) ∧ W.cell? (x.add (i * 4 + 2)) = some (.int .i64 (F i).b) ∧ W.cell? (x.add (i * 4 + 3)) = some (.int .i64 (F i).t) :=
    ⟨fun i => Classical.choose (hf i), fun i => Classical.choose_spec (hf i)⟩
  have hR : ∀ (j : Nat) (r : Rl), ((List.range len).map F)[j]? = some r → j < len ∧ r = F j := fun j r hr => by
    rw [List.getElem?_map] at hr
    rcases Nat.lt_or_ge j len with h | h
    · rw [List.getElem?_range h] at hr
      injection hr with hr
      exact ⟨h, hr.symm⟩
    · rw [List.getElem?_eq_none (by simpa using h)] at hr
      cases hr
  have hlen : ((List.range len).map F).length = len := by simp
  refine ⟨(List.range len).map F, hlen, ⟨by rw [hlen]; exact hl, hm, (fun e => by cases e), fun h0 => ?_⟩, fun j r hr => ?_⟩
  · rw [hlen] at h0
    obtain ⟨b, o, s⟩ := x
    have h1 := (hF 0 h0).2.1
    have hs : s = none := by simpa [Addr.add] using World.cell?_spot h1
    subst hs
    rw [add_at] at h1
    refine ⟨b, o, rfl, cell_lt h1, fun j r hr => ?_⟩
    obtain ⟨hj, rfl⟩ := hR j r hr
    obtain ⟨_, h1, h2, h3, h4⟩ := hF j hj
    rw [add_at] at h1 h2 h3 h4
    exact ⟨h1, h2, h3, h4⟩
  · obtain ⟨hj, rfl⟩ := hR j r hr
    exact (hF j hj).1

theorem trod_float64 {t : TypeId} {fuel : Nat} {cs : List Value} {x : DataW H × List MemPlace} {spare : Nat → Bool} (ht : Tryd.prog.underlying t = some (.float .f64)) (h : DataW.trod enc Tryd.prog W base spare held fuel t cs = some x) :
    ∃ s : Nat, cs = [.float .f64 s] ∧ x = (.lit (.float .f64 s), []) ∧ s < 18446744073709551616 := by
  cases fuel with
  | zero => simp [DataW.trod] at h
  | succ n =>
    unfold DataW.trod at h
    rw [ht] at h
    split at h <;> try (simp_all; done)
    rename_i k k' b heq
    injection heq with heq
    injection heq with heq
    subst heq
    split at h
    · rename_i h2
      obtain ⟨rfl, h2⟩ := h2
      injection h with h
      exact ⟨b, rfl, h.symm, by simpa [Lit.wf] using h2⟩
    · cases h
theorem open_config {v : Value} {d : DataW H} {p : List MemPlace} (hv : Value.okWide Tryd.prog W r b0 24 v) (h : DataW.Trod enc Tryd.prog W base (fun _ => true) held 24 v d p) :
    ∃ (s : ByteArray) (A : Option Addr) (c : Nat) (R : List Rl) (f : Int), v = .agg #[.string s, .slice A R.length c, .int .i64 f] ∧ s.size ≤ maxLen ∧ RArr W (Lt W.heap.size) A c R ∧ WfR R := by
  obtain ⟨v0, v1, v2, y0, y1, y2, n, rfl, _, _, h0, h1, h2⟩ := open_agg3 Tryd.underlying24 (by kernel_rfl) (by kernel_rfl) hv h
  obtain ⟨f, e2, _, _⟩ := DataW.trod_int Tryd.underlying3 h2
  injection e2 with e2
  subst e2
  obtain ⟨s, e0, _, hs⟩ := DataW.trod_string Tryd.underlying9 h0
  injection e0 with e0
  subst e0
  have ht : ∃ A c R, v1 = .slice A (List.length R) c ∧ RArr W (Lt W.heap.size) A c R ∧ WfR R := by
    rcases open_slice Tryd.underlying22 h1 with ⟨hcs, _⟩ | ⟨x, l, c, m, n', D, Pl, hcs, _, hl, hm, hmm, _, hi⟩
    · injection hcs with hcs
      exact ⟨none, 0, [], hcs, RArr.nil _ _, fun j r h => by simp at h⟩
    · injection hcs with hcs
      have hC : Tryd.prog.cellsOf 48 = 4 := by kernel_rfl
      rw [hC] at hi
      simp only [if_true] at hmm
      obtain ⟨R, hR0, hR, hWf⟩ := rules_in (W := W) (x := x) hl hm (fun i h => by
        obtain ⟨cs, hc, ht⟩ := hi i (by omega)
        obtain ⟨ys, n2, _, _, hlen, hyl, hf⟩ := DataW.trod_struct Tryd.underlying48 ht
        obtain ⟨_, hcl, hat⟩ := World.cells?_some hc
        match cs, hlen.trans hC with
        | [u0, u1, u2, u3], _ =>
          have k0 := hat 0 (by omega)
          have k1 := hat 1 (by omega)
          have k2 := hat 2 (by omega)
          have k3 := hat 3 (by omega)
          obtain ⟨z0, hz0⟩ : ∃ z, ys[0]? = some z := ⟨_, List.getElem?_eq_getElem (by rw [hyl]; decide)⟩
          obtain ⟨z1, hz1⟩ : ∃ z, ys[1]? = some z := ⟨_, List.getElem?_eq_getElem (by rw [hyl]; decide)⟩
          obtain ⟨z2, hz2⟩ : ∃ z, ys[2]? = some z := ⟨_, List.getElem?_eq_getElem (by rw [hyl]; decide)⟩
          obtain ⟨z3, hz3⟩ : ∃ z, ys[3]? = some z := ⟨_, List.getElem?_eq_getElem (by rw [hyl]; decide)⟩
          have g0 := (hf 0 _ rfl).trans hz0
          have g1 := (hf 1 _ rfl).trans hz1
          have g2 := (hf 2 _ rfl).trans hz2
          have g3 := (hf 3 _ rfl).trans hz3
          obtain ⟨s, es, _, hsw⟩ := trod_float64 Tryd.underlying46 g0
          obtain ⟨a, ea, _, _⟩ := DataW.trod_int Tryd.underlying3 g1
          obtain ⟨b, eb, _, _⟩ := DataW.trod_int Tryd.underlying3 g2
          obtain ⟨c, ec, _, _⟩ := DataW.trod_int Tryd.underlying3 g3
          have hI : Tryd.prog.cellsOf 3 = 1 := by kernel_rfl
          have hF : Tryd.prog.cellsOf 46 = 1 := by kernel_rfl
          change List.take (Tryd.prog.cellsOf 46) (List.drop 0 [u0, u1, u2, u3]) = _ at es
          change List.take (Tryd.prog.cellsOf 3) (List.drop 1 [u0, u1, u2, u3]) = _ at ea
          change List.take (Tryd.prog.cellsOf 3) (List.drop 2 [u0, u1, u2, u3]) = _ at eb
          change List.take (Tryd.prog.cellsOf 3) (List.drop 3 [u0, u1, u2, u3]) = _ at ec
          rw [hI] at ea eb ec
          rw [hF] at es
          simp at es ea eb ec
          subst es
          subst ea
          subst eb
          subst ec
          rw [Go.Deep.add_add] at k0 k1 k2 k3
          exact ⟨s, a, b, c, hsw, k0, k1, k2, k3⟩)
      subst hR0
      exact ⟨some x, c, R, hcs, hR, hWf⟩
  obtain ⟨A, c, R, rfl, hR, hWf⟩ := ht
  exact ⟨s, A, c, R, f, rfl, hs, hR, hWf⟩
end
end Go.Proofs.YtodnicaidmilkaaDoor
