/-
  Plain mathematics: chains of frames, and how they grow. Nothing here speaks of the program.
-/
import Derived.Test.YtpbcpobbjoopnaaPure
namespace Go.Proofs.Ytpbcpobbjoopnaa

/-- The frames of a valid space, without their words. -/
def FV (F : Nat → Fr) (n : Nat) : Prop := (∀ f, f < n → F f = frFree ∨ ownB n F f = true) ∧ Single F n ∧ Ends F n
/-- The words of all free frames are 0. -/
def Zr (wd : Nat → Int) (k n : Nat) (F : Nat → Fr) : Prop := ∀ f, f < n → F f = frFree → zeroB wd k f = true

section
variable {s : Int} {nw k n : Nat} {wd : Nat → Int} {F F' : Nat → Fr}
theorem ValidP.fv (h : ValidP s nw wd n F) : FV F n :=
  ⟨fun f hf => (frameB_cases (h.2.2.2.1 f hf)).elim (fun x => .inl x.1) .inr, h.2.2.2.2⟩
theorem ownB_pos {f : Nat} (h : ownB n F f = true) : 0 ≤ (F f).ow := (stB_yes (ownB_yes h).1).1
theorem ValidP.zr (h : ValidP s nw wd n F) : Zr wd s.toNat n F := by
  intro f hf he
  rcases frameB_cases (h.2.2.2.1 f hf) with h1 | h1
  · exact h1.2
  · have := ownB_pos h1
    rw [he] at this
    exact absurd this (by decide)
theorem ValidP.mk_ (h1 : shB s = true) (h2 : nfB n = true) (h3 : nw = n * 2 ^ s.toNat) (hf : FV F n) (hz : Zr wd s.toNat n F) : ValidP s nw wd n F := by
  refine ⟨h1, h2, h3, fun f hlt => ?_, hf.2⟩
  rcases hf.1 f hlt with h | h
  · exact frameB_free h (hz f hlt h)
  · exact frameB_own h
theorem FV.inside (h : FV F n) : Inside F n := by
  intro f hf
  rcases h.1 f hf with h1 | h1
  · left; rw [h1]; rfl
  · rcases (ownB_yes h1).2 with h2 | ⟨g, h2, h3, _⟩
    · exact .inl h2
    · right; omega
theorem FV.free (h : FV F n) {f : Nat} (hf : f < n) (ho : (F f).ow = -1) : F f = frFree := by
  rcases h.1 f hf with h1 | h1
  · exact h1
  · have := ownB_pos h1; omega
theorem FV.own (h : FV F n) {f : Nat} (hf : f < n) (ho : (F f).ow ≠ -1) : ownB n F f = true := by
  rcases h.1 f hf with h1 | h1
  · rw [h1] at ho; exact absurd rfl ho
  · exact h1

/-- Along a chain the owner and the stamp stay. -/
theorem FV.along (h : FV F n) {p : Nat} (hp : p < n) (ho : (F p).ow ≠ -1) : ∀ i, iter F i p ≠ -1 → (F (iter F i p).toNat).ow = (F p).ow ∧ (F (iter F i p).toNat).st = (F p).st
  | 0, _ => by simp [iter]
  | i + 1, hne => by
    have hi : iter F i p ≠ -1 := fun e => hne (iter_stay F e (by omega))
    obtain ⟨h1, h2⟩ := FV.along h hp ho i hi
    have hin := iter_in h.inside hp i
    have hq : (iter F i p).toNat < n := by omega
    have hown := h.own hq (by rw [h1]; exact ho)
    have e : iter F (i + 1) p = (F (iter F i p).toNat).nx := by rw [iter_succ, if_neg hi]
    rw [e] at hne ⊢
    rcases (ownB_yes hown).2 with h3 | ⟨g, h3, h4, h5, h6, h7⟩
    · exact absurd h3 hne
    · rw [h3, Int.toNat_natCast]
      exact ⟨h6.trans h1, h7.trans h2⟩

theorem iter_congr (e : ∀ j, (F j).nx = (F' j).nx) : ∀ (i : Nat) (f : Int), iter F i f = iter F' i f
  | 0, _ => rfl
  | i + 1, f => by
    simp only [iter]
    by_cases h : f = -1
    · rw [if_pos h, if_pos h]
    · rw [if_neg h, if_neg h, e, iter_congr e i]

/-- A chain that ends at all ends within n links. -/
theorem ends_of (hi : Inside F n) (h : ∀ f, f < n → ∃ N, iter F N (f : Nat) = -1) : Ends F n := by
  intro f hf
  obtain ⟨N, hN⟩ := h f hf
  -- the least such N
  have hl : ∃ M, iter F M (f : Nat) = -1 ∧ ∀ j, j < M → iter F j (f : Nat) ≠ -1 := by
    induction N using Nat.strongRecOn with
    | _ N ih =>
      by_cases hx : ∃ j, j < N ∧ iter F j (f : Nat) = -1
      · obtain ⟨j, hj, hj2⟩ := hx
        exact ih j hj hj2
      · exact ⟨N, hN, fun j hj e => hx ⟨j, hj, e⟩⟩
  obtain ⟨M, hM, hmin⟩ := hl
  rcases Nat.lt_or_ge (n + 1) M with hlt | hge
  · exfalso
    have hd : ((List.range M).map fun i => (iter F i (f : Nat)).toNat).Nodup := by
      rw [List.nodup_iff_pairwise_ne, List.pairwise_map]
      have key : ∀ i j, i < j → j < M → iter F i (f : Nat) ≠ iter F j (f : Nat) := by
        intro i j hij hj e
        have h1 : iter F (j + (M - j)) (f : Nat) = -1 := by rw [show j + (M - j) = M by omega]; exact hM
        rw [iter_add, ← e, ← iter_add] at h1
        exact hmin (i + (M - j)) (by omega) h1
      refine (List.nodup_iff_pairwise_ne.1 List.nodup_range).imp_of_mem ?_
      intro i j ha hb hij e
      simp at ha hb
      have a1 := iter_in hi hf i
      have a2 := iter_in hi hf j
      have b1 := hmin i ha
      have b2 := hmin j hb
      rcases Nat.lt_or_ge i j with h3 | h3
      · exact key i j h3 hb (by omega)
      · exact key j i (by omega) ha (by omega)
    have := (nodup_le n _ hd (by
      intro x hx
      simp only [List.mem_map, List.mem_range] at hx
      obtain ⟨i, hin, rfl⟩ := hx
      have a1 := iter_in hi hf i
      have b1 := hmin i hin
      omega)).1
    simp at this
    omega
  · exact iter_stay F hM hge

/-- A frame is taken: it gets an owner and a stamp. -/
def lift (F : Nat → Fr) (f : Nat) (o s : Int) : Nat → Fr := fun j => if j = f then ⟨o, s, -1⟩ else F j
/-- A frame gets a next one. -/
def link (F : Nat → Fr) (l : Nat) (f : Int) : Nat → Fr := fun j => if j = l then ⟨(F l).ow, (F l).st, f⟩ else F j

theorem lift_same (f : Nat) (o s : Int) : lift F f o s f = ⟨o, s, -1⟩ := if_pos rfl
theorem lift_other {f j : Nat} (h : j ≠ f) (o s : Int) : lift F f o s j = F j := if_neg h
theorem link_same (l : Nat) (f : Int) : link F l f l = ⟨(F l).ow, (F l).st, f⟩ := if_pos rfl
theorem link_other {l j : Nat} (h : j ≠ l) (f : Int) : link F l f j = F j := if_neg h

theorem lift_nx {f : Nat} (h : F f = frFree) (o s : Int) (j : Nat) : (lift F f o s j).nx = (F j).nx := by
  by_cases e : j = f
  · subst e; rw [lift_same, h]; rfl
  · rw [lift_other e]

theorem lift_fv (h : FV F n) {f : Nat} (hff : F f = frFree) {o s : Int} (hst : stB s o = true) : FV (lift F f o s) n := by
  have hnx := lift_nx hff o s
  refine ⟨fun j hj => ?_, ?_, ?_⟩
  · by_cases e : j = f
    · subst e
      right
      exact ownB_of (by rw [lift_same]; exact hst) (.inl (by rw [lift_same]))
    · rcases h.1 j hj with h1 | h1
      · left; rw [lift_other e]; exact h1
      · right
        have hp := ownB_pos h1
        obtain ⟨a, b⟩ := ownB_yes h1
        refine ownB_of (by rw [lift_other e]; exact a) ?_
        rw [lift_other e]
        rcases b with b | ⟨g, b1, b2, b3, b4, b5⟩
        · exact .inl b
        · have hg : g ≠ f := fun e2 => by
            rw [e2, hff] at b4
            have : (frFree.ow : Int) = -1 := rfl
            omega
          exact .inr ⟨g, b1, b2, b3, by rw [lift_other hg]; exact b4, by rw [lift_other hg]; exact b5⟩
  · intro a b ha hb he hne
    rw [hnx, hnx] at he
    rw [hnx] at hne
    exact h.2.1 a b ha hb he hne
  · intro j hj
    rw [iter_congr hnx]
    exact h.2.2 j hj

theorem link_fv (h : FV F n) {l f : Nat} (hl : l < n) (hf : f < n) (hlf : f ≠ l) (hln : (F l).nx = -1) (hfn : (F f).nx = -1) (hpos : (F l).ow ≠ -1) (h1 : (F f).ow = (F l).ow) (h2 : (F f).st = (F l).st)
    (hno : ∀ j, j < n → (F j).nx ≠ f) : FV (link F l f) n := by
  have how : ∀ j, (link F l f j).ow = (F j).ow := by
    intro j
    by_cases e : j = l
    · subst e; rw [link_same]
    · rw [link_other e]
  have hst : ∀ j, (link F l f j).st = (F j).st := by
    intro j
    by_cases e : j = l
    · subst e; rw [link_same]
    · rw [link_other e]
  have hin : Inside (link F l f) n := by
    intro j hj
    by_cases e : j = l
    · subst e; right; rw [link_same]; show (0 : Int) ≤ (f : Int) ∧ (f : Int) < n; omega
    · rw [link_other e]; exact h.inside j hj
  refine ⟨fun j hj => ?_, ?_, ?_⟩
  · by_cases e : j = l
    · subst e
      right
      have a := ownB_yes (h.own hj hpos)
      exact ownB_of (by rw [how, hst]; exact a.1) (.inr ⟨f, by rw [link_same], hf, hlf, by rw [how, how]; exact h1, by rw [hst, hst]; exact h2⟩)
    · rcases h.1 j hj with h3 | h3
      · left; rw [link_other e]; exact h3
      · right
        obtain ⟨a, b⟩ := ownB_yes h3
        refine ownB_of (by rw [how, hst]; exact a) ?_
        rw [link_other e]
        rcases b with b | ⟨g, b1, b2, b3, b4, b5⟩
        · exact .inl b
        · exact .inr ⟨g, b1, b2, b3, by rw [how]; exact b4, by rw [hst]; exact b5⟩
  · intro a b ha hb he hne
    by_cases ea : a = l
    · by_cases eb : b = l
      · rw [ea, eb]
      · subst ea
        rw [link_same, link_other eb] at he
        exact absurd he.symm (hno b hb)
    · by_cases eb : b = l
      · subst eb
        rw [link_same, link_other ea] at he
        exact absurd he (hno a ha)
      · rw [link_other ea, link_other eb] at he
        rw [link_other ea] at hne
        exact h.2.1 a b ha hb he hne
  · refine ends_of hin fun j hj => ?_
    have key : ∀ (N : Nat) (x : Int), (x = -1 ∨ (0 ≤ x ∧ x < n)) → iter F N x = -1 → ∃ N', iter (link F l f) N' x = -1 := by
      intro N
      induction N with
      | zero => intro x _ hx; exact ⟨0, hx⟩
      | succ N ih =>
        intro x hr hx
        rcases hr with hr | hr
        · exact ⟨0, hr⟩
        · by_cases e : x = (l : Int)
          · refine ⟨2, ?_⟩
            subst e
            simp only [iter]
            rw [if_neg (by omega), Int.toNat_natCast, link_same]
            show (if (f : Int) = -1 then (-1 : Int) else (link F l f (f : Int).toNat).nx) = -1
            rw [if_neg (by omega), Int.toNat_natCast, link_other hlf]
            exact hfn
          · have e2 : x.toNat ≠ l := by omega
            simp only [iter] at hx
            rw [if_neg (by omega)] at hx
            obtain ⟨N', hN'⟩ := ih _ (h.inside x.toNat (by omega)) hx
            refine ⟨N' + 1, ?_⟩
            simp only [iter]
            rw [if_neg (by omega), link_other e2]
            exact hN'
    exact key (n + 1) j (by omega) (h.2.2 j hj)

/-- The chain of an increment: m frames from first to last, with one owner and stamp; none if m is 0. -/
def ChainP (F : Nat → Fr) (n : Nat) (first last : Int) (m : Nat) (o s : Int) : Prop :=
  (m = 0 ∧ first = -1) ∨ (0 < m ∧ ∃ p l : Nat, first = p ∧ p < n ∧ last = l ∧ l < n ∧ iter F (m - 1) p = l ∧ (F l).nx = -1 ∧ (F p).ow = o ∧ (F p).st = s)

theorem ChainP.end_ {first last o s : Int} {m : Nat} (h : ChainP F n first last m o s) (hm : 0 < m) : iter F m first = -1 := by
  rcases h with ⟨h, _⟩ | ⟨_, p, l, rfl, _, _, _, h4, h5, _⟩
  · omega
  · rw [show m = (m - 1) + 1 by omega, iter_succ, h4, if_neg (by omega), Int.toNat_natCast]
    exact h5
theorem ChainP.at_ {first last o s : Int} {m : Nat} (h : ChainP F n first last m o s) (hv : FV F n) (hs : stB s o = true) {i : Nat} (hi : i < m) :
    ∃ q : Nat, iter F i first = q ∧ q < n ∧ (F q).ow = o ∧ (F q).st = s := by
  rcases h with ⟨h, _⟩ | ⟨_, p, l, rfl, hp, _, hl, h4, h5, h6, h7⟩
  · omega
  · have hne : iter F i p ≠ -1 := fun e => by have := iter_stay F e (show i ≤ m - 1 by omega); omega
    have hin := iter_in hv.inside hp i
    have ho : (F p).ow ≠ -1 := by have := (stB_yes hs).1; omega
    obtain ⟨a, b⟩ := hv.along hp ho i hne
    refine ⟨(iter F i p).toNat, by omega, by omega, a.trans h6, b.trans h7⟩

/-- One frame more. -/
theorem grow_first (hv : FV F n) {f : Nat} (hf : f < n) (hff : F f = frFree) {o s : Int} (hst : stB s o = true) :
    FV (lift F f o s) n ∧ ChainP (lift F f o s) n f f 1 o s :=
  ⟨lift_fv hv hff hst, .inr ⟨by omega, f, f, rfl, hf, rfl, hf, rfl, by rw [lift_same], by rw [lift_same], by rw [lift_same]⟩⟩

theorem grow_next (hv : FV F n) {m p l f : Nat} {o s : Int} (hst : stB s o = true) (hm : 0 < m) (hf : f < n) (hff : F f = frFree) (h : ChainP F n p l m o s) :
    FV (link (lift F f o s) l f) n ∧ ChainP (link (lift F f o s) l f) n p f (m + 1) o s := by
  have ho := (stB_yes hst).1
  have hlast := h.at_ hv hst (show m - 1 < m by omega)
  rcases h with ⟨h, _⟩ | ⟨_, p', l', e1, hp, e2, hl, h4, h5, h6, h7⟩
  · omega
  · obtain rfl : p = p' := by omega
    obtain rfl : l = l' := by omega
    obtain ⟨q, hq1, hq2, hq3, hq4⟩ := hlast
    obtain rfl : q = l := by omega
    have hql : f ≠ q := fun e => by rw [← e, hff] at hq3; have : (frFree.ow : Int) = -1 := rfl; omega
    have hpf : p ≠ f := fun e => by rw [e, hff] at h6; have : (frFree.ow : Int) = -1 := rfl; omega
    have hlv := lift_fv hv hff hst
    have hnx := lift_nx hff o s
    have hno : ∀ j, j < n → (lift F f o s j).nx ≠ f := by
      intro j hj e
      rw [hnx] at e
      rcases hv.1 j hj with h1 | h1
      · rw [h1] at e; have : (frFree.nx : Int) = -1 := rfl; omega
      · have hp1 := ownB_pos h1
        rcases (ownB_yes h1).2 with h2 | ⟨g, b1, b2, b3, b4, b5⟩
        · omega
        · obtain rfl : g = f := by omega
          rw [hff] at b4
          have : (frFree.ow : Int) = -1 := rfl
          omega
    have e1 : (lift F f o s q).ow = o := by rw [lift_other (Ne.symm hql)]; exact hq3
    have e2 : (lift F f o s q).st = s := by rw [lift_other (Ne.symm hql)]; exact hq4
    refine ⟨link_fv hlv hl hf hql (by rw [hnx]; exact h5) (by rw [lift_same]) (by omega) (by rw [e1, lift_same]) (by rw [e2, lift_same]) hno, ?_⟩
    have hwalk : ∀ i, i ≤ m - 1 → iter (link (lift F f o s) q f) i p = iter F i p := by
      intro i
      induction i with
      | zero => intro _; rfl
      | succ i ih =>
        intro hi
        rw [iter_succ, iter_succ, ih (by omega)]
        have hne : iter F i p ≠ -1 := fun e => by have := iter_stay F e (show i ≤ m - 1 by omega); omega
        have hin := iter_in hv.inside hp i
        rw [if_neg hne, if_neg hne]
        have hnl : (iter F i p).toNat ≠ q := by
          intro e
          have h1 : iter F (i + 1) p = -1 := by
            rw [iter_succ, if_neg hne, e]
            exact h5
          have := iter_stay F h1 (show i + 1 ≤ m - 1 by omega)
          omega
        rw [link_other hnl, hnx]
    refine .inr ⟨by omega, p, f, rfl, hp, rfl, hf, ?_, ?_, ?_, ?_⟩
    · show iter _ (m + 1 - 1) _ = _
      rw [show m + 1 - 1 = (m - 1) + 1 by omega, iter_succ, hwalk (m - 1) (by omega), h4, if_neg (by omega), Int.toNat_natCast, link_same]
    · rw [link_other hql, lift_same]
    · by_cases e : p = q
      · subst e; rw [link_same]; show (lift F f o s p).ow = o; rw [lift_other hpf]; exact h6
      · rw [link_other e, lift_other hpf]; exact h6
    · by_cases e : p = q
      · subst e; rw [link_same]; show (lift F f o s p).st = s; rw [lift_other hpf]; exact h7
      · rw [link_other e, lift_other hpf]; exact h7

/-- How many of the first t frames are free. -/
def freeN (F : Nat → Fr) : Nat → Nat
  | 0 => 0
  | t + 1 => freeN F t + (if (F t).ow = -1 then 1 else 0)
theorem freeN_le : ∀ t, freeN F t ≤ t
  | 0 => Nat.le_refl _
  | t + 1 => by have := freeN_le t; simp only [freeN]; split <;> omega
theorem freeN_lift {f : Nat} {o s : Int} (hf : (F f).ow = -1) (ho : o ≠ -1) : ∀ t, freeN (lift F f o s) t + (if f < t then 1 else 0) = freeN F t
  | 0 => by simp [freeN]
  | t + 1 => by
    have ih := freeN_lift (s := s) hf ho t
    simp only [freeN]
    by_cases e : t = f
    · subst e
      rw [lift_same, if_neg (show ¬ (⟨o, s, -1⟩ : Fr).ow = -1 from ho), if_pos hf, if_pos (by omega)]
      rw [if_neg (by omega)] at ih
      omega
    · rw [lift_other e]
      by_cases h : f < t
      · rw [if_pos h] at ih
        rw [if_pos (show f < t + 1 by omega)]
        omega
      · rw [if_neg h] at ih
        rw [if_neg (show ¬ f < t + 1 by omega)]
        omega
theorem freeN_link {l : Nat} {f : Int} : ∀ t, freeN (link F l f) t = freeN F t
  | 0 => rfl
  | t + 1 => by
    simp only [freeN, freeN_link t]
    by_cases e : t = l
    · subst e; rw [link_same]
    · rw [link_other e]
theorem freeN_none : ∀ t, (∀ f, f < t → (F f).ow ≠ -1) → freeN F t = 0
  | 0, _ => rfl
  | t + 1, h => by
    simp only [freeN, freeN_none t (fun f hf => h f (by omega)), if_neg (h t (by omega))]

/-- The words of free frames stay 0 where free frames were free before. -/
theorem Zr.mono {F F' : Nat → Fr} (h : Zr wd k n F) (hs : ∀ f, f < n → F' f = frFree → F f = frFree) : Zr wd k n F' := fun f hf he => h f hf (hs f hf he)
theorem lift_free {f : Nat} {o s : Int} (ho : o ≠ -1) {j : Nat} (h : lift F f o s j = frFree) : F j = frFree := by
  by_cases e : j = f
  · subst e; rw [lift_same] at h; exact absurd (congrArg Fr.ow h) ho
  · rw [lift_other e] at h; exact h
theorem link_free {l : Nat} {f : Int} (hl : (F l).ow ≠ -1) {j : Nat} (h : link F l f j = frFree) : F j = frFree := by
  by_cases e : j = l
  · subst e; rw [link_same] at h; exact absurd (congrArg Fr.ow h) hl
  · rw [link_other e] at h; exact h

/-- The address of place p of a chain. -/
def addrP (F : Nat → Fr) (k : Nat) (first : Int) (p : Nat) : Int := iter F (p / 2 ^ k) first * 2 ^ k + (p % 2 ^ k : Nat)
end
end Go.Proofs.Ytpbcpobbjoopnaa
