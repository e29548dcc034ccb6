/- Two stores beside the document's: a call on one of them and the document's leaves the other. Bytes of stores tell their rows. Conditions: as do's. -/
import Derived.Test.YtkdcacajacndmaaSmDo
import Derived.Test.YtkdcacajacndmaaSnAll
namespace Go.Proofs.Ytkdcacajacndmaa
open Go.RowKit
theorem wpAnyH_more {P : Program} {md : Region.Mode} {ops : Array Oper} {Q : Exit → Act → World → Prop} {S S' : World → Prop} (hS : ∀ w, S' w → S w) :
    ∀ (fuel : Nat) (listed : Array Bool) (a : Act) (w : World), wpAnyH P md ops Q S' fuel listed a w → wpAnyH P md ops Q S fuel listed a w
  | 0, _, _, _, h => h
  | fuel + 1, _, _, _, h => ⟨h.1, fun i hi => wpOp_mono (fun a' w' h' => ⟨hS w' h'.1, wpAnyH_more hS fuel _ a' w' h'.2⟩) (h.2 i hi)⟩
theorem Store.none_ {o : Option Nat} {w : World} {g n : Nat} {O : Nat → Prop} {rs : List Rw} (h : @Store ⟨o⟩ w g O n rs) : @Store ⟨none⟩ w g O n rs :=
  @Store.other ⟨o⟩ none w w g n O rs h (Fr.refl _ _) (fun k e => by cases e) (fun k e => by cases e)
theorem RSt.none_ {o : Option Nat} {w : World} {B g n : Nat} {O : Nat → Prop} {rs : List Rw} (h : @RSt ⟨o⟩ w B g O n rs) : @RSt ⟨none⟩ w B g O n rs :=
  @RSt.other ⟨o⟩ none w w B g n O rs h (Fr.refl _ _) (fun k e => by cases e) (fun k e => by cases e)
/-- a store and the document's, and another store. -/
def Trio (W w : World) (ga gm gb n : Nat) (ra rm rb : List Rw) : Prop :=
  ∃ O OM o OB, @PairS ⟨o⟩ W w ga gm n ra rm O OM ∧ @Store ⟨none⟩ w gb OB n rb ∧ (∀ b, OB b → ¬ O b ∧ ¬ OM b) ∧ ∀ b, OB b → W.heap.size ≤ b
theorem Trio.nofr {W w w' : World} {ga gm gb n : Nat} {ra rm rb : List Rw} (h : Trio W w ga gm gb n ra rm rb) (hf : Fr NoBlk w w') : Trio W w' ga gm gb n ra rm rb := by
  obtain ⟨O, OM, o, OB, h1, h2, h3, h4⟩ := h
  exact ⟨O, OM, o, OB, @PairS.nofr ⟨o⟩ _ _ _ _ _ _ _ _ _ _ h1 hf, @Store.nofr ⟨none⟩ _ _ _ _ _ _ h2 hf, h3, h4⟩
theorem Trio.fr {W w : World} {ga gm gb n : Nat} {ra rm rb : List Rw} (h : Trio W w ga gm gb n ra rm rb) : Fr NoBlk W w := by
  obtain ⟨O, OM, o, OB, h1, _⟩ := h
  exact @PairS.fr ⟨o⟩ _ _ _ _ _ _ _ _ _ h1
theorem Trio.swap {W w : World} {ga gm gb n : Nat} {ra rm rb : List Rw} (h : Trio W w ga gm gb n ra rm rb) : Trio W w gb gm ga n rb rm ra := by
  obtain ⟨O, OM, o, OB, h1, h2, h3, h4⟩ := h
  refine ⟨OB, OM, none, O, @PairS.mk ⟨none⟩ _ _ _ _ _ _ _ _ _ h2 (@PairS.rst ⟨o⟩ _ _ _ _ _ _ _ _ _ h1).none_ h4 (fun b hb => (h3 b hb).2) (@PairS.fr ⟨o⟩ _ _ _ _ _ _ _ _ _ h1), (@PairS.st ⟨o⟩ _ _ _ _ _ _ _ _ _ h1).none_, fun b hb => ⟨fun e => (h3 b e).1 hb, @PairS.apart ⟨o⟩ _ _ _ _ _ _ _ _ _ h1 b hb⟩, @PairS.new ⟨o⟩ _ _ _ _ _ _ _ _ _ h1⟩
theorem Trio.both {W w : World} {ga gm gb n : Nat} {ra rm rb : List Rw} (h : Trio W w ga gm gb n ra rm rb) : (∃ O, @Store ⟨none⟩ w ga O n ra) ∧ ∃ O, @Store ⟨none⟩ w gb O n rb := by
  obtain ⟨O, OM, o, OB, h1, h2, h3, h4⟩ := h
  exact ⟨⟨O, (@PairS.st ⟨o⟩ _ _ _ _ _ _ _ _ _ h1).none_⟩, OB, h2⟩
/-- a call on the first and the document's. -/
theorem do_trio (W w : World) (ga gm gb n k : Nat) (ra rm rb : List Rw) (h : Trio W w ga gm gb n ra rm rb) (hl : Lim k ra) (hm : Lim k rm) (hk : k ≤ 99999) (x : Opn) (hx : Part W x.data) (hs : x.data.2.2.length ≤ 500 ∧ x.name.length ≤ 500) :
    Calls Try.prog 14 #[.pointer (some ⟨ga, 0, none⟩), .pointer (some ⟨gm, 0, none⟩), .agg (opa x)] w fun e w' => (∃ z, e = .returned z) ∧ Trio W w' ga gm gb n (dstep n ra x) (dstep n rm x) rb := by
  obtain ⟨O, OM, o, OB, h1, h2, h3, h4⟩ := h
  refine (@do_two ⟨o⟩ W w ga gm n k ra rm O OM h1 hl hm hk x hx hs).mono ?_
  rintro e w' ⟨b, rfl, hb, O', OM', o', hp, ht⟩
  have hnb : ∀ k, Byt w k → ¬ (O k ∨ OM k) := by
    obtain ⟨E, hE⟩ : ∃ E : Ex, PairS W w ga gm n ra rm O OM := ⟨⟨o⟩, h1⟩
    intro k hk e
    rcases e with e | e
    · exact hE.st.nb e hk
    · exact hE.rst.nb e hk
  refine ⟨⟨_, rfl⟩, O', OM', o', OB, hp, @Store.fr ⟨none⟩ _ _ _ _ _ _ _ h2 ht.fr (fun b hb e => e.elim (h3 b hb).1 (h3 b hb).2) hnb, fun b hb => ?_, h4⟩
  have hlt := @Store.lt ⟨none⟩ _ _ _ _ _ h2 b hb
  refine ⟨fun e => ?_, fun e => ?_⟩
  · rcases ht.new b (.inl e) with (e | e) | e
    · exact (h3 b hb).1 e
    · exact (h3 b hb).2 e
    · omega
  · rcases ht.new b (.inr e) with (e | e) | e
    · exact (h3 b hb).1 e
    · exact (h3 b hb).2 e
    · omega
theorem Lim.le {j k : Nat} {rs : List Rw} (h : Lim j rs) (hk : j ≤ k) : Lim k rs := ⟨Nat.le_trans h.1 hk, fun z hz => ⟨(h.2 z hz).1, Nat.le_trans (h.2 z hz).2.1 hk, (h.2 z hz).2.2⟩⟩
/-- homes are among the regions. -/
def Homes (n : Nat) (rs : List Rw) : Prop := ∀ x ∈ rs, 0 ≤ x.2.home ∧ x.2.home < n
theorem homeOf_in (key : Bs) (n : Nat) (hn : 1 ≤ n) : 0 ≤ homeOf key (n : Int) ∧ homeOf key (n : Int) < n := by
  unfold homeOf
  rw [if_neg (by omega)]
  exact ⟨Int.emod_nonneg _ (by omega), Int.emod_lt_of_pos _ (by omega)⟩
theorem Homes.get {n : Nat} {rs : List Rw} (h : Homes n rs) (hn : 1 ≤ n) (key : Bs) : 0 ≤ (rget (n : Int) rs key).home ∧ (rget (n : Int) rs key).home < n := by
  unfold rget
  cases hf : rs.find? fun x => x.1 == key with
  | none => exact homeOf_in key n hn
  | some x => exact h x (List.mem_of_find?_eq_some hf)
theorem Homes.set {n : Nat} {rs : List Rw} (h : Homes n rs) (key : Bs) (r : Rec) (hr : 0 ≤ r.home ∧ r.home < n) : Homes n (rset rs key r) := fun z hz => by
  unfold rset at hz
  split at hz
  · rcases mem_putL' hz with rfl | hz
    · exact hr
    · exact h z hz
  · exact h z (mem_delL' hz)
theorem Homes.step {n : Nat} {rs : List Rw} (h : Homes n rs) (hn : 1 ≤ n) (x : Opn) : Homes n (dstep n rs x) := by
  unfold dstep
  split
  · exact h.set _ _ (h.get hn _)
  · split
    · unfold moveR
      split
      · rename_i he
        refine h.set _ _ ?_
        unfold moveE at he
        split at he
        · cases he
        · show 0 ≤ x.n ∧ x.n < n
          omega
      · exact h
    · split
      · exact h
      · exact h.set _ _ (h.get hn _)
theorem hmN_inj {a b : Int} (ha : 0 ≤ a ∧ a < 9223372036854775808) (hb : 0 ≤ b ∧ b < 9223372036854775808) (h : hmN a = hmN b) : a = b := by
  have e1 := hmN_eq a
  have e2 := hmN_eq b
  have f1 : IntKind.u64.wrap a = a % 18446744073709551616 := rfl
  have f2 : IntKind.u64.wrap b = b % 18446744073709551616 := rfl
  rw [f1] at e1
  rw [f2] at e2
  omega
theorem num_app_inj (a : Nat) : ∀ (b : Nat) (r s : Bs), num a ++ r = num b ++ s → a = b ∧ r = s := by
  induction a using Nat.strongRecOn with
  | ind a ih =>
    intro b r s h
    by_cases ha : a < 128
    · by_cases hb : b < 128
      · rw [num_lt ha, num_lt hb] at h
        injection h with h1 h2
        have := ofNat_inj (by omega) (by omega) h1
        exact ⟨this, h2⟩
      · rw [num_lt ha, num_ge hb] at h
        injection h with h1 h2
        have := ofNat_inj (by omega) (by omega) h1
        omega
    · by_cases hb : b < 128
      · rw [num_ge ha, num_lt hb] at h
        injection h with h1 h2
        have := ofNat_inj (by omega) (by omega) h1
        omega
      · rw [num_ge ha, num_ge hb] at h
        injection h with h1 h2
        have h3 := ofNat_inj (by omega) (by omega) h1
        obtain ⟨h4, h5⟩ := ih (a / 128) (by omega) (b / 128) r s h2
        exact ⟨by omega, h5⟩
theorem text_app_inj {a b r s : Bs} (h : num a.length ++ a ++ r = num b.length ++ b ++ s) : a = b ∧ r = s := by
  rw [List.append_assoc, List.append_assoc] at h
  obtain ⟨h1, h2⟩ := num_app_inj _ _ _ _ h
  exact List.append_inj h2 h1
theorem b1_inj {a b : Bool} (h : b1 a = b1 b) : a = b := by
  cases a <;> cases b <;> first | rfl | exact absurd h (by decide)
theorem rowB_inj {x y : Rw} {r s : Bs} (hx : 0 ≤ x.2.home ∧ x.2.home < 9223372036854775808) (hy : 0 ≤ y.2.home ∧ y.2.home < 9223372036854775808) (h : rowB x ++ r = rowB y ++ s) : x = y ∧ r = s := by
  obtain ⟨k, ⟨a, v, m, c⟩⟩ := x
  obtain ⟨k', ⟨a', v', m', c'⟩⟩ := y
  unfold rowB at h
  dsimp only at h hx hy
  have e : ∀ (k v : Bs) (a : Bool) (m : Int) (c : Nat) (r : Bs), num k.length ++ k ++ [b1 a] ++ (num v.length ++ v) ++ num (hmN m) ++ num c ++ r = num k.length ++ k ++ (b1 a :: (num v.length ++ v ++ (num (hmN m) ++ (num c ++ r)))) := fun k v a m c r => by simp
  rw [e, e] at h
  obtain ⟨h1, h2⟩ := text_app_inj h
  injection h2 with h2 h3
  obtain ⟨h4, h5⟩ := text_app_inj h3
  obtain ⟨h6, h7⟩ := num_app_inj _ _ _ _ h5
  obtain ⟨h8, h9⟩ := num_app_inj _ _ _ _ h7
  have h10 := b1_inj h2
  have h11 := hmN_inj hx hy h6
  subst h1 h4 h8 h10 h11
  exact ⟨rfl, h9⟩
theorem rows_inj : ∀ {xs ys : List Rw} {r s : Bs}, (∀ x ∈ xs, 0 ≤ x.2.home ∧ x.2.home < 9223372036854775808) → (∀ x ∈ ys, 0 ≤ x.2.home ∧ x.2.home < 9223372036854775808) → xs.length = ys.length → xs.flatMap rowB ++ r = ys.flatMap rowB ++ s → xs = ys ∧ r = s
  | [], [], _, _, _, _, _, h => ⟨rfl, h⟩
  | [], _ :: _, _, _, _, _, hl, _ => by cases hl
  | _ :: _, [], _, _, _, _, hl, _ => by cases hl
  | x :: xs, y :: ys, r, s, hx, hy, hl, h => by
    rw [List.flatMap_cons, List.flatMap_cons, List.append_assoc, List.append_assoc] at h
    obtain ⟨h1, h2⟩ := rowB_inj (hx x List.mem_cons_self) (hy y List.mem_cons_self) h
    obtain ⟨h3, h4⟩ := rows_inj (fun z hz => hx z (List.mem_cons_of_mem _ hz)) (fun z hz => hy z (List.mem_cons_of_mem _ hz)) (by simpa using hl) h2
    exact ⟨by rw [h1, h3], h4⟩
theorem snapB_inj {n : Nat} (hn : n ≤ 3) {xs ys : List Rw} (hx : Homes n xs) (hy : Homes n ys) (h : snapB n xs = snapB n ys) : xs = ys := by
  unfold snapB at h
  rw [List.append_assoc, List.append_assoc] at h
  obtain ⟨_, h1⟩ := num_app_inj _ _ _ _ h
  obtain ⟨h2, h3⟩ := num_app_inj _ _ _ _ h1
  exact (rows_inj (r := []) (s := []) (fun x hz => by have := hx x hz; omega) (fun x hz => by have := hy x hz; omega) h2 (by rw [List.append_nil, List.append_nil]; exact h3)).1
/-- bytes are alike just if rows are. -/
theorem snapB_same {n : Nat} (hn : n ≤ 3) {xs ys : List Rw} (hx : Homes n xs) (hy : Homes n ys) : (snapB n xs == snapB n ys) = sameRs xs ys := by
  rw [Bool.eq_iff_iff, beq_iff_eq, sameRs_iff]
  exact ⟨snapB_inj hn hx hy, fun h => by rw [h]⟩
end Go.Proofs.Ytkdcacajacndmaa
