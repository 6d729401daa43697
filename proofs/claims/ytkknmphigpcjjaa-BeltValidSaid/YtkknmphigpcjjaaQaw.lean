/-
  The statements' own check of layer 11: the examples.
-/
import Derived.Test.YtkknmphigpcjjaaQrem
namespace Go.Proofs.Ytkknmphigpcjjaa
open Go.RowKit
set_option maxRecDepth 100000
set_option linter.unusedVariables false

theorem beltAdd_at (A : Option Addr) (c n : Nat) (Q : List (List IncR)) (b : Nat) (q : List IncR) (x0 z x2 x3 x4 : Int) (w : World) (hQ : QArr w (Lt w.heap.size) A c Q) (hn : Q.length ≤ 4096) (hqn : ∀ q ∈ Q, q.length ≤ 4000) (hb : Q[b]? = some q)
    (hlast : ∀ j, q.getLast? = some j → j.sq < x0) (h1 : n = Q.length) (h2 : z = b) :
    Calls Try.prog 28 #[.slice A n c, .agg #[.int .i64 x0, .int .i64 z, .int .i64 x2, .int .i64 x3, .int .i64 x4]] w fun e w' => ∃ v, e = .returned (.tuple #[v, .int .i64 0]) ∧ Rows2 w' w.heap.size v (Q.set b (q ++ [⟨x0, b, x2, x3, x4⟩])) ∧ Below w.heap.size w w' := by
  subst h1 h2
  exact add_any A c Q b q x0 x2 x3 x4 w hQ hn hqn hb hlast
theorem youngest_at (A : Option Addr) (c n : Nat) (Q : List (List IncR)) (b : Nat) (z : Int) (w : World) (hQ : QArr w (Lt w.heap.size) A c Q) (hb : b < Q.length) (h1 : n = Q.length) (h2 : z = b) :
    Calls Try.prog 30 #[.slice A n c, .int .i64 z] w (GivesI (youV Q b) w) := by
  subst h1 h2
  exact youngest_any A c Q b w hQ hb
theorem oldest_at (A : Option Addr) (c n : Nat) (Q : List (List IncR)) (b : Nat) (z : Int) (w : World) (hQ : QArr w (Lt w.heap.size) A c Q) (hb : b < Q.length) (h1 : n = Q.length) (h2 : z = b) :
    Calls Try.prog 29 #[.slice A n c, .int .i64 z] w (GivesI (oldV Q b) w) := by
  subst h1 h2
  exact oldest_any A c Q b w hQ hb
theorem words_at (A : Option Addr) (c n : Nat) (Q : List (List IncR)) (w : World) (hQ : QArr w (Lt w.heap.size) A c Q) (h1 : n = Q.length) :
    Calls Try.prog 18 #[.slice A n c] w fun e w' => e = .returned (.int .i64 (wrdQ Q)) ∧ Below w.heap.size w w' := by
  subst h1
  exact words_any A c Q w hQ
theorem remove_at (A : Option Addr) (c n : Nat) (Q : List (List IncR)) (x : Int) (w : World) (hQ : QArr w (Lt w.heap.size) A c Q) (hn : Q.length ≤ 4096) (hqn : ∀ q ∈ Q, q.length ≤ 4000) (hx : HasQ Q x) (h1 : n = Q.length) :
    Calls Try.prog 27 #[.slice A n c, .int .i64 x] w (RemOf Q x w) := by
  subst h1
  exact remove_any A c Q x w hQ hn hqn hx

set_option maxHeartbeats 2000000 in
theorem awake11_any (w : World) : Calls Try.prog 8 #[] w fun e w' => e = .returned (.bool true) ∧ Below w.heap.size w w' := by
  obtain ⟨U, hU⟩ : ∃ U, U = w.alloc (.cells #[.int .i64 3, .slice none 0 0, .slice none 0 0] 25) := ⟨_, rfl⟩
  obtain ⟨W, hW⟩ : ∃ W, W = U.alloc (.cells #[.slice none 0 0, .slice none 0 0] 31) := ⟨_, rfl⟩
  have BS0 : Blk U w.heap.size 25 #[.int .i64 3, .slice none 0 0, .slice none 0 0] := by rw [hU]; exact Blk.new _ _ _
  have HBU : Hid (Below w.heap.size w U) := Lib.hid (by rw [hU]; exact (Below.refl _ _).alloc (Nat.le_refl _) _)
  have hbW : Below U.heap.size U W := by rw [hW]; exact (Below.refl _ _).alloc (Nat.le_refl _) _
  have BS := Lib.hid (BS0.next hbW)
  have HBW : Hid (Below w.heap.size w W) := below_next HBU.out (Nat.le_refl _) hbW
  have BL : Blk W U.heap.size 31 #[.slice none 0 0, .slice none 0 0] := by rw [hW]; exact Blk.new _ _ _
  have hq : QArr W (Lt W.heap.size) (some ⟨U.heap.size, 0, none⟩) 2 [[], []] := by
    refine ⟨by simp, by simp [maxLen], (fun e => by cases e), fun _ => ⟨U.heap.size, 0, rfl, BL.lt, fun j q hj => ?_⟩⟩
    rcases j with _ | _ | j
    · simp at hj; subst hj
      exact ⟨none, 0, by simpa using BL.cell 0, LArr.nil _ _⟩
    · simp at hj; subst hj
      exact ⟨none, 0, by simpa using BL.cell 1, LArr.nil _ _⟩
    · simp at hj
  have hUs : U.heap.size = w.heap.size + 1 := by rw [hU]; simp
  rw [hUs] at hq
  have HQ := Lib.hid hq
  have HU := Lib.hid hU
  have HW := Lib.hid hW
  clear hUs hU hW BS0 hbW BL hq
  go_enter Try.func8, Try.ntmps8
  go_wp2_with fail
  rw [← HU.out, ← HW.out]
  refine (beltAdd_at (some ⟨w.heap.size + 1, 0, none⟩) 2 2 [[], []] 1 [] 3 1 0 0 2 W HQ.out (by simp) (by simp) rfl (by simp) rfl rfl).mono ?_
  rintro e W1 ⟨v, rfl, hr, hb⟩
  obtain ⟨A, c, rfl, hqa⟩ := hr.qarr
  have BS1 := Lib.hid (BS.out.next hb)
  have HQ1 := Lib.hid hqa.lt
  have HB1 : Hid (Below w.heap.size w W1) := below_next HBW.out (Nat.le_refl _) hb
  clear hr hqa hb
  go_wp2_with fail
  refine (youngest_at A c 2 [[], [⟨3, 1, 0, 0, 2⟩]] 1 1 W1 HQ1.out (by simp) rfl rfl).mono ?_
  rintro e W2 ⟨rfl, hb⟩
  have BS2 := BS1.out.next hb
  have HQ2 := HQ1.out.next hb
  have HB2 : Hid (Below w.heap.size w W2) := below_next HB1.out (Nat.le_refl _) hb
  obtain ⟨V, hV⟩ : ∃ V, V = W2.alloc (.cells #[.int .i64 3, .int .i64 1, .int .i64 0, .int .i64 0, .int .i64 2] 41) := ⟨_, rfl⟩
  have hbV : Below W2.heap.size W2 V := by rw [hV]; exact (Below.refl _ _).alloc (Nat.le_refl _) _
  have BI : Blk V W2.heap.size 41 #[.int .i64 3, .int .i64 1, .int .i64 0, .int .i64 0, .int .i64 2] := by rw [hV]; exact Blk.new _ _ _
  have BSV := BS2.next hbV
  have HQV := HQ2.next hbV
  have HBV : Hid (Below w.heap.size w V) := below_next HB2.out (Nat.le_refl _) hbV
  have HVV := Lib.hid hV
  have p0 := BS2.cell 0
  have p1 := BS2.cell 1
  have p2 := BS2.cell 2
  simp at p0 p1 p2
  have zs : w.heap.size < W2.heap.size := BS2.lt
  have HYV := Lib.hid (show Value.tuple #[((youV [[], [⟨3, 1, 0, 0, 2⟩]] 1).getD inc0).v, .bool (youV [[], [⟨3, 1, 0, 0, 2⟩]] 1).isSome] = .tuple #[.agg #[.int .i64 3, .int .i64 1, .int .i64 0, .int .i64 0, .int .i64 2], .bool true] from rfl)
  rw [HYV.out]
  have HO1 := Lib.hid (show opnB 3 16 2 = false by simp [opnB, sizeV, shB]; decide)
  have HO2 := Lib.hid (show opnB 3 15 2 = true by simp [opnB, sizeV, shB]; decide)
  clear hb hV hbV BS2 HQ2
  go_wp2_with fail
  rw [← HVV.out]
  refine (open_any 3 16 2 (.slice none 0 0) (.slice none 0 0) 0 0 0 0 V).mono ?_
  rintro e V1 ⟨rfl, hb⟩
  rw [HO1.out]
  have BS3 := BSV.next hb
  have BI3 := BI.next hb
  have HQ3 := HQV.next hb
  have HB3 : Hid (Below w.heap.size w V1) := below_next HBV.out (Nat.le_refl _) hb
  clear p0 p1 p2 hb zs BSV BI HQV
  have p0 := BS3.cell 0
  have p1 := BS3.cell 1
  have p2 := BS3.cell 2
  simp at p0 p1 p2
  have zs : w.heap.size < V1.heap.size := BS3.lt
  go_wp2_with fail
  refine (open_any 3 15 2 (.slice none 0 0) (.slice none 0 0) 0 0 0 0 V1).mono ?_
  rintro e V2 ⟨rfl, hb⟩
  rw [HO2.out]
  have BI4 := BI3.next hb
  have HQ4 := Lib.hid (HQ3.next hb)
  have HB4 : Hid (Below w.heap.size w V2) := below_next HB3.out (Nat.le_refl _) hb
  have q0 := BI4.cell 0
  simp at q0
  have zi : W2.heap.size < V2.heap.size := BI4.lt
  clear hb p0 p1 p2 zs BS3 BI3 HQ3 BI4
  go_wp2_with fail
  refine (words_at A c 2 _ V2 HQ4.out rfl).mono ?_
  rintro e V3 ⟨rfl, hb⟩
  have HB5 : Hid (Below w.heap.size w V3) := below_next HB4.out (Nat.le_refl _) hb
  have hw2 : wrdQ ([[], []].set 1 ([] ++ [⟨3, ((1 : Nat) : Int), 0, 0, 2⟩])) = 2 := by
    simp only [List.nil_append, List.set_cons_succ, List.set_cons_zero, wrdQ, wrdL, List.foldl_cons, List.foldl_nil]
    exact IntWalk.wrap64_in _ (by omega)
  rw [hw2]
  clear hw2 hb
  go_wp2
  go_ret
  exact ⟨rfl, HB5.out⟩
end Go.Proofs.Ytkknmphigpcjjaa
