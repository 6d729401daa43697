/-
  The walk of PoolCounts.
-/
import Derived.Test.YtpjhgdgdckndeaaDoorAwake
import Derived.Test.YtpjhgdgdckndeaaDoorParts
namespace Go.Proofs.YtpjhgdgdckndeaaDoor
open Go.RowKit
set_option maxRecDepth 100000
set_option linter.unusedVariables false

set_option maxHeartbeats 4000000 in
theorem walkCounts (Al : Option Addr) (nl cl : Nat) (w : World) (hL : ListP w w.heap.size Al nl cl) (hD : Db w) :
    Calls Tryd.prog 3 #[.slice Al nl cl] w fun e w' => e = .returned (.bool true) ∧ Below w.heap.size w w' := by
  have HD := Lib.hid hD
  clear hD
  go_enter Tryd.func3, Tryd.ntmps3
  go_wp2_with fail
  refine (deck_any Al nl cl w hL).mono ?_
  rintro e U2 ⟨rfl, hd, hb, hz⟩
  have HDK := Lib.hid hd
  have HBU2 := Lib.hid hb
  clear hd hb hL
  go_wp2_with fail
  refine (space_any w.heap.size U2 HDK.out).mono ?_
  rintro e U3 ⟨k, m, B, d, gb, d', wd, F, L, rfl, k0, k1, m0, m1, hoA, hoT, hvp, _, hG⟩
  have HBU3 := Lib.hid (below_turn HBU2.out hG (Nat.le_refl _))
  have HA3 := Lib.hid hoA.arr
  have HT3 := Lib.hid hoT.tab
  clear hG hoA hoT HDK HBU2
  go_wp2_with fail
  obtain ⟨V, hV⟩ : ∃ V, V = U3.alloc (.cells #[.int .i64 k, .slice B (m * 2 ^ k) d, .slice (some ⟨gb, 0, none⟩) m d'] 26) := ⟨_, rfl⟩
  have hbv : Below U3.heap.size U3 V := by rw [hV]; exact (Below.refl _ _).alloc (Nat.le_refl _) _
  have BY := Lib.hid (show Blk V U3.heap.size 26 #[.int .i64 k, .slice B (m * 2 ^ k) d, .slice (some ⟨gb, 0, none⟩) m d'] by rw [hV]; exact Blk.new _ _ _)
  have HBV := Lib.hid (below_next HBU3.out (Nat.le_refl _) hbv)
  have HT := Lib.hid (show Tab V.drew V.drew.heap.size (some ⟨gb, 0, none⟩) m d' F from (show Tab V V.heap.size (some ⟨gb, 0, none⟩) m d' F from HT3.out.next hbv))
  have HDV := Lib.hid (show Db V.drew from (show Db V from HD.out.next HBV.out))
  rw [← hV]
  clear hV hbv HBU3 HA3 HT3 HD
  obtain ⟨mk, hmk⟩ : ∃ mk, mk = m * 2 ^ k := ⟨_, rfl⟩
  rw [← hmk] at BY ⊢
  clear hmk
  have q0 := BY.out.cell 0
  have q1 := BY.out.cell 1
  have q2 := BY.out.cell 2
  simp at q0 q1 q2
  have zy : U3.heap.size < V.drew.heap.size := BY.out.lt
  have hc : Below V.drew.heap.size V.drew V.drew := Below.refl _ _
  have HLL := Lib.hid (show (ownL F (-1) m).length = cntP (owB F (-1)) m from lstP_length (owB F (-1)) m)
  have hcn := cntP_le (owB F (-1)) m
  obtain ⟨cn, hcn'⟩ : ∃ cn, cn = cntP (owB F (-1)) m := ⟨_, rfl⟩
  rw [← hcn'] at hcn HLL
  have HCN := Lib.hid hcn'
  have hsum : IntKind.i64.wrap ((cn : Int) + ((m - cn : Nat) : Int)) = (m : Int) := by rw [IntKind.wrap_i64]; omega
  clear hcn' hz
  go_region_held3 (fun w' => w'.cell? ⟨U3.heap.size, 0, none⟩ = some (.int .i64 k) ∧ w'.cell? ⟨U3.heap.size, 1, none⟩ = some (.slice B mk d) ∧ w'.cell? ⟨U3.heap.size, 2, none⟩ = some (.slice (some ⟨gb, 0, none⟩) m d'))
    (first | exact ⟨q0, q1, q2⟩ | exact ⟨(hc.cell (p := ⟨_, 0, none⟩) zy).trans q0, (hc.cell (p := ⟨_, 1, none⟩) zy).trans q1, (hc.cell (p := ⟨_, 2, none⟩) zy).trans q2⟩ | go_keep)
    (first
      | (go_at_call 10; refine (free_any k _ (some ⟨gb, 0, none⟩) m d' F _ (HT.out.next hc) (by omega) (HDV.out.next hc)).mono ?_; rintro e wq ⟨A1, e1, rfl, n1, hb⟩; rw [HLL.out] at n1 ⊢; have hc := below_next hc (Nat.le_refl _) hb; try (have n2 := n2.next hb))
      | (go_at_call 11; refine (refFreeC_any k _ (some ⟨gb, 0, none⟩) m d' F _ (HT.out.next hc) (by omega)).mono ?_; rintro e wq ⟨A2, e2, rfl, n2, hb⟩; rw [HLL.out] at n2 ⊢; have hc := below_next hc (Nat.le_refl _) hb; try (have n1 := n1.next hb))
      | (go_at_call 9; refine (sameInts_yes _ _ _ _ _ _ _ n1 n2 (by omega)).mono ?_; rintro e wq ⟨rfl, hb⟩; have hc := below_next hc (Nat.le_refl _) hb)
      | (go_at_call 12; refine (used_any k _ (some ⟨gb, 0, none⟩) m d' F _ (HT.out.next hc) (by omega)).mono ?_; rintro e wq ⟨rfl, hb⟩; rw [← HCN.out]; have hc := below_next hc (Nat.le_refl _) hb)
      | (go_at_call 13; refine (refUsed_any k _ (some ⟨gb, 0, none⟩) m d' F _ (HT.out.next hc) (by omega)).mono ?_; rintro e wq ⟨rfl, hb⟩; rw [← HCN.out]; have hc := below_next hc (Nat.le_refl _) hb)
      | (go_at_call 14; refine (awake4_any _ (HDV.out.next hc)).mono ?_; rintro e wq ⟨rfl, hb⟩; have hc := below_next hc (Nat.le_refl _) hb))
  have HC := Lib.hid (below_next HBV.out.drew (Nat.le_refl _) hc)
  clear hc
  go_wp2
  go_ret
  exact ⟨rfl, HC.out⟩
end Go.Proofs.YtpjhgdgdckndeaaDoor
