/-
  Contracts of layer 10 for every raw space and every increment: Objects of package walk; Holds and Live of both sides.
-/
import Derived.Test.YthcfcciemjkilaaWkv
import Derived.Test.YthcfcciemjkilaaWkn
import Derived.Deep.RegionHeld3
namespace Go.Proofs.Ythcfcciemjkilaa
open Go.RowKit
set_option maxRecDepth 100000
set_option linter.unusedVariables false

/-- A list in a row of the call's own, and a number. -/
def GivesRow (l : List Nat) (x : Int) (w : World) (e : Ending) (w' : World) : Prop :=
  ∃ v, e = .returned (.tuple #[v, .int .i64 x]) ∧ w'.ownsRow w.heap.size 3 1 v l.length (numL l) ∧ Below w.heap.size w w'
theorem GivesRow.lst {l : List Nat} {x : Int} {w w' : World} {e : Ending} (h : GivesRow l x w e w') : GivesLst l x w e w' := by
  obtain ⟨v, h1, h2, h3⟩ := h
  obtain ⟨A, c, rfl, h4, _⟩ := nums_of_row h2
  exact ⟨A, c, h1, h4, h3⟩
theorem givesRow_none {w w' : World} {x : Int} (h : Below w.heap.size w w') : GivesRow [] x w (.returned (.tuple #[.slice none 0 0, .int .i64 x])) w' := ⟨_, rfl, World.ownsRow_nil _ _ _ _, h⟩
theorem row_lower {w : World} {B B' s n : Nat} {t : TypeId} {v : Value} {xs : List Value} (h : w.ownsRow B t s v n xs) (hB : B' ≤ B) : w.ownsRow B' t s v n xs := by
  obtain ⟨hl, h2⟩ := h
  refine ⟨hl, ?_⟩
  rcases h2 with h2 | ⟨g, cap, cur, rfl, hg1, hg, h2⟩
  · exact .inl h2
  · exact .inr ⟨g, cap, cur, rfl, Nat.le_trans hB hg1, hg, h2⟩
/-- What Objects answers, as a value. -/
def ObjsOut (s : Int) (nw : Nat) (wd : Nat → Int) (n : Nat) (F : Nat → Fr) (sq bt fi la wo : Int) (w : World) (e : Ending) (w' : World) : Prop := ∃ l y, GivesRow l y w e w' ∧ ObjsX s nw wd n F sq bt fi la wo l y
set_option maxHeartbeats 4000000 in
theorem objs10_any (s : Int) (A A' : Option Addr) (nw c n c' : Nat) (wd : Nat → Int) (F : Nat → Fr) (sq bt fi la wo : Int) (w : World) (hA : Arr w w.heap.size A nw c wd) (hT : Tab w w.heap.size A' n c' F) (hu : U64w nw wd) :
    Calls Try.prog 12 #[.agg #[.int .i64 s, .slice A nw c, .slice A' n c'], .agg #[.int .i64 sq, .int .i64 bt, .int .i64 fi, .int .i64 la, .int .i64 wo]] w (ObjsOut s nw wd n F sq bt fi la wo w) := by
  obtain ⟨U, hU⟩ : ∃ U, U = (w.alloc (.cells #[.int .i64 s, .slice A nw c, .slice A' n c'] 25)).alloc (.cells #[.int .i64 sq, .int .i64 bt, .int .i64 fi, .int .i64 la, .int .i64 wo] 27) := ⟨_, rfl⟩
  have BS := Lib.hid (show Blk U w.heap.size 25 #[.int .i64 s, .slice A nw c, .slice A' n c'] by rw [hU]; exact (Blk.new _ _ _).alloc _)
  have BI := Lib.hid (show Blk U (w.heap.size + 1) 27 #[.int .i64 sq, .int .i64 bt, .int .i64 fi, .int .i64 la, .int .i64 wo] by rw [hU]; exact Blk.newAt _ _ _ _ (by simp))
  have HBU : Hid (Below w.heap.size w U) := by rw [hU]; exact ((Below.refl _ _).alloc (Nat.le_refl _) _).alloc (by simp) _
  have HA := Lib.hid hA
  have HT := Lib.hid hT
  have HU64 := Lib.hid hu
  have HU := Lib.hid hU
  have p0 := BS.out.cell 0
  have p1 := BS.out.cell 1
  have p2 := BS.out.cell 2
  have q0 := BI.out.cell 0
  have q1 := BI.out.cell 1
  have q2 := BI.out.cell 2
  have q3 := BI.out.cell 3
  have q4 := BI.out.cell 4
  have pz := BS.out.lt
  have qz := BI.out.lt
  simp at p0 p1 p2 q0 q1 q2 q3 q4
  clear hA hT hU hu
  obtain ⟨b, hb⟩ : ∃ b, b = incB s nw wd n F sq bt fi la wo := ⟨_, rfl⟩
  have CV := inc9_any s A A' nw c n c' wd F sq bt fi la wo U (HA.out.next HBU.out) (HT.out.next HBU.out)
  rw [← hb] at CV
  have HIB := Lib.hid hb
  clear hb
  go_enter Try.func12, Try.ntmps12
  go_wp2_with fail
  rw [← HU.out]
  clear HU
  refine CV.mono ?_
  rintro e U1 ⟨rfl, hb1⟩
  have HB1 := Lib.hid (below_next HBU.out (Nat.le_refl _) hb1)
  have BS1 := Lib.hid (BS.out.next hb1)
  have BI1 := Lib.hid (BI.out.next hb1)
  clear hb1 CV p0 p1 p2 q0 q1 q2 q3 q4 pz qz BS BI
  cases b with
  | false =>
    go_wp2_with fail
    go_ret2
    exact ⟨[], 1, givesRow_none HB1.out, .inl ⟨HIB.out.symm, rfl, rfl⟩⟩
  | true =>
    obtain ⟨hv, _⟩ := incB_yes HIB.out.symm
    obtain ⟨k, rfl, k3, k8⟩ := valid_nat hv
    have hn := nfB_yes hv.2.1
    have HFV := Lib.hid hv.fv
    have HV := Lib.hid hv
    have p0 := BS1.out.cell 0
    have p1 := BS1.out.cell 1
    have p2 := BS1.out.cell 2
    have q2 := BI1.out.cell 2
    have q4 := BI1.out.cell 4
    have pz := BS1.out.lt
    have qz := BI1.out.lt
    simp at p0 p1 p2 q2 q4
    obtain ⟨V, hV⟩ : ∃ V, V = (U1.alloc (.cells #[.slice none 0 0] 28)).alloc (.cells #[.int .i64 wo] 3) := ⟨_, rfl⟩
    obtain ⟨xa, hxa⟩ : ∃ x, x = U1.heap.size := ⟨_, rfl⟩
    have hbv : Below U1.heap.size U1 V := by rw [hV]; exact ((Below.refl _ _).alloc (Nat.le_refl _) _).alloc (by simp) _
    have BA := Lib.hid (show Blk V xa 28 #[.slice none 0 0] by rw [hV, hxa]; exact (Blk.new _ _ _).alloc _)
    have BL := Lib.hid (show Blk V (xa + 1) 3 #[.int .i64 wo] by rw [hV, hxa]; exact Blk.newAt _ _ _ _ (by simp))
    have HVB := Lib.hid (below_next HB1.out (Nat.le_refl _) hbv)
    have BS2 := Lib.hid (BS1.out.next hbv)
    have BI2 := Lib.hid (BI1.out.next hbv)
    have HAX := Lib.hid (show Arr V xa A nw c wd by rw [hxa]; exact (HA.out.next HB1.out).below hbv)
    have HTX := Lib.hid (show Tab V xa A' n c' F by rw [hxa]; exact (HT.out.next HB1.out).below hbv)
    have hza : w.heap.size + 1 < xa := by rw [hxa]; exact qz
    have hzw : w.heap.size ≤ xa := by omega
    have hz0 : w.heap.size < xa := by omega
    have HVV := Lib.hid hV
    have HXA := Lib.hid hxa
    clear hV hxa hbv hv
    go_upto_region 5 with fail
    rw [← HVV.out]
    try rw [← HXA.out]
    clear HVV p0 p1 p2 q2 q4 pz qz BS1 BI1
    have p0 := BS2.out.cell 0
    have p1 := BS2.out.cell 1
    have p2 := BS2.out.cell 2
    have q2 := BI2.out.cell 2
    have pz := BS2.out.lt
    have qz := BI2.out.lt
    simp at p0 p1 p2 q2
    -- the call of eachObject, in whatever world
    have HE := Lib.hid (show ∀ (W0 : World) (g c2 : Nat), Below xa V W0 → Blk W0 xa 28 #[.slice none 0 0] → Blk W0 (xa + 1) 3 #[.int .i64 wo] → OwnT W0 (xa + 2) (some ⟨g, 0, none⟩) n c2 (noF F n) →
        Calls Try.prog 26 #[.agg #[.int .i64 k, .slice A nw c, .slice (some ⟨g, 0, none⟩) n c2], .int .i64 fi, .func (.func 28) #[] #[.pointer (some ⟨xa, 0, none⟩), .pointer (some ⟨xa + 1, 0, none⟩)]] W0 (EachOut k wd (noF F n) fi wo.toNat W0 xa (xa + 1)) from fun W0 g c2 hb ha hl ht => by
      by_cases hw : 0 < wo
      · obtain ⟨k', p, m, W, ek, _, _, hv', rfl, h1, h2, h3, rfl, h4, h5, h6, h7⟩ := inc_chain9 HIB.out.symm hw
        obtain rfl : k = k' := by omega
        rw [Int.toNat_natCast]
        exact each_any k A (some ⟨g, 0, none⟩) nw c n c2 wd (noF F n) p m W xa (xa + 1) W0
          (fun W' h => ((HAX.out.below hb).below (h.below (by omega) (by omega) (by have := ha.lt; omega))).more (by have := ha.lt; have := h.size; omega))
          (fun W' h => (ht.keep fun x hx hl => h.block x hl (by omega) (by omega)).tab)
          (noF_valid hv') HU64.out h1 (by rw [noF_own h2]; exact h2) (noF_len hv'.fv h3) h5 h6 h4 h7 ha hl (by omega)
      · obtain ⟨rfl, rfl, _⟩ := inc_zero9 HIB.out.symm hw
        exact eachZ_any k A (some ⟨g, 0, none⟩) nw c n c2 wd (noF F n) xa (xa + 1) W0 ha hl)
    have hxv : xa ≤ V.heap.size := Nat.le_of_lt BA.out.lt
    have hxv2 : xa + 2 ≤ V.heap.size := BL.out.lt
    have HN := Lib.hid (show ∀ W', Below xa V W' → Calls Try.prog 27 #[.agg #[.int .i64 k, .slice A nw c, .slice A' n c']] W' (NoOut k A nw c n F W') from fun W' h =>
      noFree_any k A A' nw c n c' F W' ((HTX.out.below h).more (Nat.le_trans hxv h.size)) (by omega) (by omega))
    have hc : Below xa V V.drew := (Below.refl _ _).drew
    have ba := BA.out.next (Below.refl _ V).drew
    have bl := BL.out.next (Below.refl _ V).drew
    go_region_held3 (fun w' => w'.cell? ⟨w.heap.size, 0, none⟩ = some (.int .i64 k) ∧ w'.cell? ⟨w.heap.size, 1, none⟩ = some (.slice A nw c) ∧ w'.cell? ⟨w.heap.size, 2, none⟩ = some (.slice A' n c') ∧ w'.cell? ⟨w.heap.size + 1, 2, none⟩ = some (.int .i64 fi))
      (first | (with_reducible exact ⟨(hc.cell (p := ⟨_, 0, none⟩) hz0).trans p0, (hc.cell (p := ⟨_, 1, none⟩) hz0).trans p1, (hc.cell (p := ⟨_, 2, none⟩) hz0).trans p2, (hc.cell (p := ⟨_, 2, none⟩) hza).trans q2⟩) | go_keep)
      (first
        | (go_at_call 27; refine (HN.out _ hc).mono ?_; rintro e wq ⟨g, c2, rfl, ht, hb⟩; have ht := ht.lower (Nat.le_trans hxv2 hc.size); have hc := below_next hc (Nat.le_trans hxv hc.size) hb; have ba := ba.next hb; have bl := bl.next hb)
        | (go_at_call 26; refine (HE.out _ g c2 hc ba bl ht).mono ?_; rintro e wq ⟨⟨v9, rfl⟩, j9, lf9, hvis9, hlf9, hor9⟩; have hcz := hc.size; have hev9 := hvis9; obtain ⟨_, _, _, _, ht9⟩ := hev9; have hc := hc.trans (ht9.below (Nat.le_refl _) (Nat.le_succ _) (Nat.le_trans hxv hc.size))))
    all_goals
      have HBQ := Lib.hid (HVB.out.trans (hc.mono hzw))
      obtain ⟨v8, b8a, b8r, b8l, _⟩ := hvis9
      obtain ⟨A8, c8, rfl, hn8, _⟩ := nums_of_row b8r
      have HN8 := Lib.hid (row_lower b8r (Nat.le_trans hzw (Nat.le_trans hxv hcz)))
      have HLF := Lib.hid hlf9
      have HOR := Lib.hid hor9
      have a0 := b8a.cell 0
      have l0 := b8l.cell 0
      have az := b8a.lt
      have lz := b8l.lt
      simp at a0 l0
      clear hn8 hlf9 hor9 b8a b8r b8l hc ba bl ht p0 p1 p2 q2 pz qz ht9 hb
      by_cases hz : lf9 = 0
      · subst hz
        go_wp2_with fail
        go_ret2
        refine ⟨_, 0, ⟨_, rfl, HN8.out, HBQ.out⟩, .inr ⟨HIB.out.symm, ?_⟩⟩
        rw [Int.toNat_natCast]
        have h1 := HLF.out
        rcases HOR.out with ⟨h2, h3⟩ | ⟨h2, _⟩
        · exact ObjsR.addr ⟨j9, h2, by omega, .inl ⟨h3, rfl, rfl⟩⟩ (noF_addr HFV.out)
        · omega
      · have hz1 : (lf9 != 0) = true := by simpa using hz
        have HZ := Lib.hid hz
        clear hz
        go_wp2_with fail
        go_ret2
        refine ⟨[], 12, givesRow_none HBQ.out, .inr ⟨HIB.out.symm, ?_⟩⟩
        rw [Int.toNat_natCast]
        have h1 := HLF.out
        have h4 := HZ.out
        rcases HOR.out with ⟨h2, h3⟩ | ⟨_, h2⟩
        · omega
        · exact h2.addr (noF_addr HFV.out)

/-- The list is short. -/
theorem objsX_small {s : Int} {nw : Nat} {wd : Nat → Int} {n : Nat} {F : Nat → Fr} {sq bt fi la wo : Int} {l : List Nat} {e : Int} (h : ObjsX s nw wd n F sq bt fi la wo l e) : l.length ≤ 16384 := by
  rcases h with ⟨_, _, rfl⟩ | ⟨h1, h2⟩
  · simp
  · have h3 := h2.len.1
    by_cases hw : 0 < wo
    · obtain ⟨k, p, m, W, _, _, _, hv, _, _, _, _, rfl, _, _, _, h7⟩ := inc_chain9 h1 hw
      obtain ⟨_, _, _, nw1⟩ := sp_bounds hv
      omega
    · obtain ⟨rfl, _, _⟩ := inc_zero9 h1 hw
      omega
/-! Holds. -/
set_option maxHeartbeats 1000000 in
theorem holds10_any (s : Int) (A A' : Option Addr) (nw c n c' : Nat) (wd : Nat → Int) (F : Nat → Fr) (sq bt fi la wo a : Int) (w : World) (hA : Arr w w.heap.size A nw c wd) (hT : Tab w w.heap.size A' n c' F) (hu : U64w nw wd) :
    Calls Try.prog 17 #[.agg #[.int .i64 s, .slice A nw c, .slice A' n c'], .agg #[.int .i64 sq, .int .i64 bt, .int .i64 fi, .int .i64 la, .int .i64 wo], .int .i64 a] w fun e w' => ∃ l y, ObjsX s nw wd n F sq bt fi la wo l y ∧ e = .returned (.bool (memB l a)) ∧ Below w.heap.size w w' := by
  obtain ⟨U, hU⟩ : ∃ U, U = (w.alloc (.cells #[.int .i64 s, .slice A nw c, .slice A' n c'] 25)).alloc (.cells #[.int .i64 sq, .int .i64 bt, .int .i64 fi, .int .i64 la, .int .i64 wo] 27) := ⟨_, rfl⟩
  have BS := Lib.hid (show Blk U w.heap.size 25 #[.int .i64 s, .slice A nw c, .slice A' n c'] by rw [hU]; exact (Blk.new _ _ _).alloc _)
  have BI := Lib.hid (show Blk U (w.heap.size + 1) 27 #[.int .i64 sq, .int .i64 bt, .int .i64 fi, .int .i64 la, .int .i64 wo] by rw [hU]; exact Blk.newAt _ _ _ _ (by simp))
  have HBU : Hid (Below w.heap.size w U) := by rw [hU]; exact ((Below.refl _ _).alloc (Nat.le_refl _) _).alloc (by simp) _
  have CO := objs10_any s A A' nw c n c' wd F sq bt fi la wo U (hA.next HBU.out) (hT.next HBU.out) hu
  have HU64 := Lib.hid hu
  have HU := Lib.hid hU
  clear hA hT hU hu
  go_enter Try.func17, Try.ntmps17
  go_wp2_with fail
  rw [← HU.out]
  refine CO.mono ?_
  rintro e U1 ⟨l, y, hg5, hob⟩
  obtain ⟨A5, c5, rfl, hn5, hb5⟩ := hg5.lst
  have HOB := Lib.hid hob
  have HB5 := Lib.hid (below_next HBU.out (Nat.le_refl _) hb5)
  have hlen : l.length ≤ 1048576 := by
    have h2 := objsX_small hob
    omega
  have CC := containsI_any A5 c5 l a U1 hn5 hlen
  clear hob hb5 CO hn5 hlen hg5
  go_wp2_with fail
  refine CC.mono ?_
  rintro e U2 ⟨rfl, hb6⟩
  have HB6 := Lib.hid (below_next HB5.out (Nat.le_refl _) hb6)
  clear hb6 CC
  go_wp2_with fail
  go_ret
  exact ⟨l, y, HOB.out, rfl, HB6.out⟩
end Go.Proofs.Ythcfcciemjkilaa
