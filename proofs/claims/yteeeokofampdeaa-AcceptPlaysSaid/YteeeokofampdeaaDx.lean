/- The voter beside the document's: what both hold, each call, rows that the law spoils. Conditions: places below 64. -/
import Derived.Test.YteeeokofampdeaaDw
import Derived.Deep.LoopGhost
namespace Go.Proofs.Yteeeokofampdeaa
open Go.RowKit Go.Shelf

/-- what is taken, by places. -/
def tabL (T : Nat → Bool) (V : Nat → VaT) : Nat → List ItT
  | 0 => []
  | n + 1 => if T n = true then tabL T V n ++ [((n : Int), V n)] else tabL T V n
theorem tab_succ (T : Nat → Bool) (V : Nat → VaT) (n : Nat) : tabL T V (n + 1) = if T n = true then tabL T V n ++ [((n : Int), V n)] else tabL T V n := rfl
theorem tab_mem {T : Nat → Bool} {V : Nat → VaT} {n : Nat} : ∀ x ∈ tabL T V n, 0 ≤ x.1 ∧ x.1 < (n : Int) := by
  induction n with
  | zero => intro x hx; cases hx
  | succ n ih =>
    intro x hx
    unfold tabL at hx
    split at hx
    · rcases List.mem_append.1 hx with hx | hx
      · have := ih x hx; omega
      · rw [List.mem_singleton.1 hx]
        constructor
        · show (0 : Int) ≤ (n : Int); omega
        · show (n : Int) < _; omega
    · have := ih x hx; omega
theorem ge_tab (T : Nat → Bool) (V : Nat → VaT) (fr : Int) (n : Nat) : (geL ltI fr (tabL T V n)).map (·.2) = fromL T V fr n := by
  induction n with
  | zero => rfl
  | succ n ih =>
    unfold tabL fromL
    by_cases ht : T n = true
    · rw [if_pos ht]
      unfold geL at ih ⊢
      rw [List.filter_append, List.map_append, ih]
      by_cases hf : fr ≤ (n : Int)
      · rw [if_pos ⟨ht, hf⟩]
        have e : ltI (n : Int) fr = false := by unfold ltI; exact decide_eq_false (by omega)
        simp [e]
      · rw [if_neg (fun h => hf h.2)]
        have e : ltI (n : Int) fr = true := by unfold ltI; exact decide_eq_true (by omega)
        simp [e]
    · rw [if_neg ht, if_neg (fun h => ht h.1), ih]
theorem tab_from (T : Nat → Bool) (V : Nat → VaT) (n : Nat) : (tabL T V n).map (·.2) = fromL T V 0 n := by
  rw [← ge_tab]
  unfold geL
  rw [filter_all fun x hx => ?_]
  have := tab_mem x hx
  have e : ltI x.1 0 = false := by unfold ltI; exact decide_eq_false (by omega)
  rw [e]
  rfl
theorem put_tab (T : Nat → Bool) (V : Nat → VaT) (s : Nat) (v : VaT) (n : Nat) : s < n → putL ltI (s : Int) v (tabL T V n) = tabL (fun i => if i = s then true else T i) (fun i => if i = s then v else V i) n := by
  have hlow : ∀ n, n ≤ s → tabL (fun i => if i = s then true else T i) (fun i => if i = s then v else V i) n = tabL T V n := by
    intro n
    induction n with
    | zero => intro _; rfl
    | succ n ih =>
      intro h
      rw [tab_succ, tab_succ, if_neg (show ¬ n = s by omega), if_neg (show ¬ n = s by omega), ih (by omega)]
  induction n with
  | zero => intro h; omega
  | succ n ih =>
    intro h
    by_cases e : n = s
    · subst e
      have e1 : (tabL T V (n + 1)).filter (fun p => ltI p.1 (n : Int)) = tabL T V n := by
        rw [tab_succ]
        have e2 : (tabL T V n).filter (fun p => ltI p.1 (n : Int)) = tabL T V n := filter_all fun x hx => ltI_iff.2 (tab_mem x hx).2
        by_cases ht : T n = true
        · rw [if_pos ht, List.filter_append, e2]
          simp [ltI]
        · rw [if_neg ht, e2]
      have e3 : (tabL T V (n + 1)).filter (fun p => ltI (n : Int) p.1) = [] := filter_no fun x hx => by
        have := tab_mem x hx
        unfold ltI
        exact decide_eq_false (by omega)
      unfold putL
      rw [e1, e3]
      rw [tab_succ, if_pos (if_pos rfl), if_pos rfl, hlow n (Nat.le_refl _)]
    · have hs : s < n := by omega
      have ih' := ih hs
      unfold putL at ih' ⊢
      rw [tab_succ (fun i => if i = s then true else T i), if_neg e, if_neg e, ← ih', tab_succ]
      by_cases ht : T n = true
      · have e1 : ltI (n : Int) (s : Int) = false := by unfold ltI; exact decide_eq_false (by omega)
        have e2 : ltI (s : Int) (n : Int) = true := by unfold ltI; exact decide_eq_true (by omega)
        simp [ht, List.filter_append, e1, e2]
      · simp [ht]
theorem acc_tab (p : Nat) (T : Nat → Bool) (V : Nat → VaT) (v : VaT) : (if takesT p v then putL ltI v.slot v (tabL T V 64) else tabL T V 64) = tabL (accT p T v) (accV p V v) 64 := by
  unfold accT accV
  by_cases ht : takesT p v = true
  · rw [if_pos ht, if_pos ht, if_pos ht]
    have h1 := ht
    unfold takesT at h1
    simp only [Bool.and_eq_true, decide_eq_true_eq] at h1
    have e : v.slot = ((v.slot.toNat : Nat) : Int) := by omega
    rw [show putL ltI v.slot v (tabL T V 64) = putL ltI ((v.slot.toNat : Nat) : Int) v (tabL T V 64) from by rw [← e]]
    exact put_tab T V v.slot.toNat v 64 (by omega)
  · rw [if_neg ht, if_neg ht, if_neg ht]

def OutS (W : World) (S : Nat → Prop) : Nat → Prop := fun k => W.heap.size ≤ k ∧ ¬ S k
/-- a voter, and the document's, beside blocks S. -/
structure AvS (W w : World) (S : Nat → Prop) (g gt p : Nat) (xs : List ItT) (m q : Nat) (T : Nat → Bool) (V : Nat → VaT) : Prop where
  ex : ∃ O, VoT w W.heap.size g gt O p xs ∧ ∀ k, k = g ∨ O k → ¬ S k ∧ k ≠ m
  dv : DvIn w m q T V
  mS : ¬ S m ∧ W.heap.size ≤ m
  le : ∀ k, S k → k < w.heap.size
  fr : Fr NoBlk W w
section
variable {W w w' : World} {S : Nat → Prop} {g gt p m q : Nat} {xs : List ItT} {T : Nat → Bool} {V : Nat → VaT} (h : AvS W w S g gt p xs m q T V)
include h
theorem AvS.far (hf : Fr S w w') (hw : Fr NoBlk W w') : AvS W w' S g gt p xs m q T V := by
  obtain ⟨O, h1, h2⟩ := h.ex
  exact ⟨⟨O, h1.fr hf (h2 g (.inl rfl)).1 (fun b hb => (h2 b (.inr hb)).1), h2⟩, h.dv.fr hf h.mS.1, h.mS, fun k hk => Nat.lt_of_lt_of_le (h.le k hk) hf.size, hw⟩
theorem AvS.nofr (hf : Fr NoBlk w w') : AvS W w' S g gt p xs m q T V := h.far (hf.mono fun _ _ e => e.elim) (h.fr.trans hf)
theorem AvS.sub {S' : Nat → Prop} (hS : ∀ k, S' k → S k ∨ w.heap.size ≤ k) (hf : Fr NoBlk w w') (hl : ∀ k, S' k → k < w'.heap.size) : AvS W w' S' g gt p xs m q T V := by
  obtain ⟨O, h1, h2⟩ := h.ex
  refine ⟨⟨O, h1.nofr hf, fun k hk => ⟨fun e => ?_, (h2 k hk).2⟩⟩, h.dv.nofr hf, ⟨fun e => ?_, h.mS.2⟩, hl, h.fr.trans hf⟩
  · rcases hS k e with e | e
    · exact (h2 k hk).1 e
    · rcases hk with rfl | hk
      · have := h1.bk.lt; omega
      · have := h1.tr.lt hk; omega
  · rcases hS m e with e | e
    · exact h.mS.1 e
    · have := h.dv.lt; omega
theorem AvS.none_ (hf : Fr (OutS W S) w w') : Fr NoBlk W w' := h.fr.step hf fun k hk e => by have := e.1; omega
def PromD (p : Nat) (xs : List ItT) (bal : Nat) (fr : Int) : List VaT := if bal < p then [] else (geL ltI fr xs).map (·.2)
theorem AvS.prom (bal : Nat) (fr : Int) : Calls Try.prog 9 #[.pointer (some ⟨g, 0, none⟩), .int .u64 (bal : Int), .int .i64 fr] w fun e w' => ∃ A c us, us = (if bal < p then [] else (geL ltI fr xs).map (·.2)) ∧
      e = .returned (.tuple #[.slice A us.length c, .bool (!decide (bal < p))]) ∧ w'.ownsRow w.heap.size 43 3 (.slice A us.length c) us.length (vcs us) ∧ Fr (OutS W S) w w' ∧
      AvS W w' (fun k => S k ∨ (Value.slice A us.length c).ownBlock = some k) g gt (if bal < p then p else bal) xs m q T V := by
  obtain ⟨O, h1, h2⟩ := h.ex
  refine (vpromiseT_any w _ g gt O p xs h1 bal fr).mono ?_
  intro e w' hp
  unfold PromPostT at hp
  by_cases hb : bal < p
  · rw [if_pos hb] at hp
    refine ⟨none, 0, [], (if_pos hb).symm, by rw [decide_eq_true hb]; exact hp.1, World.ownsRow_nil _ _ _ _, hp.2.mono fun _ _ e => e.elim, ?_⟩
    rw [if_pos hb]
    exact h.sub (fun k hk => by
      rcases hk with hk | hk
      · exact .inl hk
      · cases hk) hp.2 (fun k hk => by
      rcases hk with hk | hk
      · exact Nat.lt_of_lt_of_le (h.le k hk) hp.2.size
      · cases hk)
  · rw [if_neg hb] at hp
    obtain ⟨A, c, rfl, k1, k2, k3⟩ := hp
    have el : ((geL ltI fr xs).map (·.2)).length = (geL ltI fr xs).length := List.length_map ..
    have hg := h2 g (.inl rfl)
    have hgw := h1.bk.lt
    refine ⟨A, c, _, (if_neg hb).symm, by rw [decide_eq_false hb, el]; rfl, by rw [el, ← vals_vcs]; exact k1, k3.mono fun k _ e => by rw [e]; exact ⟨h1.ge.1, hg.1⟩, ?_⟩
    rw [if_neg hb, el]
    refine ⟨⟨O, k2, fun k hk => ⟨fun e => ?_, (h2 k hk).2⟩⟩, h.dv.fr k3 (fun e => hg.2 e.symm), ⟨fun e => ?_, h.mS.2⟩, fun k hk => ?_, h.fr.step k3 fun k hk e => by have := h1.ge.1; omega⟩
    · rcases e with e | e
      · exact (h2 k hk).1 e
      · have := (own_blk k1 e).1
        rcases hk with rfl | hk
        · omega
        · have := h1.tr.lt hk; omega
    · rcases e with e | e
      · exact h.mS.1 e
      · have := (own_blk k1 e).1
        have := h.dv.lt
        omega
    · rcases hk with hk | hk
      · exact Nat.lt_of_lt_of_le (h.le k hk) k3.size
      · exact (own_blk k1 hk).2
theorem AvS.acc (v : VaT) : Calls Try.prog 12 #[.pointer (some ⟨g, 0, none⟩), .agg #[.int .i64 v.slot, .int .u64 (v.bal : Int), .string (bstr v.val)]] w fun e w' => e = .returned (.bool (takesT p v)) ∧ Fr (OutS W S) w w' ∧
      AvS W w' S g gt (if takesT p v then v.bal else p) (if takesT p v then putL ltI v.slot v xs else xs) m q T V := by
  obtain ⟨O, h1, h2⟩ := h.ex
  refine (vacceptT_any w _ g gt O p xs h1 v).mono ?_
  rintro e w' ⟨rfl, O', k1, k2, k3⟩
  have hg := h2 g (.inl rfl)
  have hfo : Fr (OutS W S) w w' := k3.mono fun k _ e => ⟨by rcases e with rfl | e; exact h1.ge.1; exact h1.ge.2 k e, (h2 k e).1⟩
  refine ⟨rfl, hfo, ⟨O', k1, fun k hk => ?_⟩, h.dv.fr k3 (fun e => (h2 m e).2 rfl), h.mS, fun k hk => Nat.lt_of_lt_of_le (h.le k hk) k3.size, h.none_ hfo⟩
  rcases hk with hk | hk
  · exact h2 k (.inl hk)
  · rcases k2 k hk with hk | hk
    · exact h2 k (.inr hk)
    · exact ⟨fun e => by have := h.le k e; omega, fun e => by have := h.dv.lt; omega⟩
theorem AvS.promised : Calls Try.prog 15 #[.pointer (some ⟨g, 0, none⟩)] w fun e w' => e = .returned (.int .u64 (p : Int)) ∧ w = w' := by
  obtain ⟨O, h1, h2⟩ := h.ex
  exact vpromisedT_any w _ g gt O p xs h1
theorem AvS.votes : Calls Try.prog 14 #[.pointer (some ⟨g, 0, none⟩)] w fun e w' => ∃ A c us, us = xs.map (·.2) ∧ e = .returned (.slice A us.length c) ∧ w'.ownsRow w.heap.size 43 3 (.slice A us.length c) us.length (vcs us) ∧ Fr NoBlk w w' := by
  obtain ⟨O, h1, h2⟩ := h.ex
  refine (vvotesT_any w _ g gt O p xs h1).mono ?_
  rintro e w' ⟨A, c, rfl, k1, k2⟩
  have el : (xs.map (·.2)).length = xs.length := List.length_map ..
  exact ⟨A, c, _, rfl, by rw [el], by rw [el, ← vals_vcs]; exact k1, k2⟩
theorem AvS.doc {q' : Nat} {T' : Nat → Bool} {V' : Nat → VaT} (hd : DvIn w' m q' T' V') (hf : Fr (fun k => k = m) w w') : AvS W w' S g gt p xs m q' T' V' ∧ Fr (OutS W S) w w' := by
  obtain ⟨O, h1, h2⟩ := h.ex
  have hfo : Fr (OutS W S) w w' := hf.mono fun k _ e => by rw [e]; exact ⟨h.mS.2, h.mS.1⟩
  exact ⟨⟨⟨O, h1.fr hf (fun e => (h2 g (.inl rfl)).2 e) (fun b hb e => (h2 b (.inr hb)).2 e), h2⟩, hd, h.mS, fun k hk => Nat.lt_of_lt_of_le (h.le k hk) hf.size, h.none_ hfo⟩, hfo⟩
end
/-- votes in a block that the law may write into. -/
def SpV (W : World) (base : Nat) (A : Option Addr) (n : Nat) : Prop := n = 0 ∨ ∃ b cs, A = some ⟨b, 0, none⟩ ∧ base ≤ b ∧ Bk W b 43 cs ∧ n * 3 ≤ cs.size
theorem SpV.of {W : World} {base n c : Nat} {A : Option Addr} {xs : List Value} (h : W.ownsRow base 43 3 (.slice A n c) n xs) : SpV W base A n := by
  rcases h.2 with ⟨_, hn⟩ | ⟨g, cap, cur, hv, hb, hg, hnc, hcm, hcs, htake⟩
  · exact .inl hn
  · have hA : A = some ⟨g, 0, none⟩ := by injection hv
    exact .inr ⟨g, cur, hA, hb, hg, by omega⟩
theorem SpV.nofr {W W' : World} {base n : Nat} {A : Option Addr} (h : SpV W base A n) (hf : Fr NoBlk W W') : SpV W' base A n := by
  rcases h with h | ⟨b, cs, h1, h2, h3, h4⟩
  · exact .inl h
  · exact .inr ⟨b, cs, h1, h2, h3.fr hf (fun h => h), h4⟩
theorem SpV.at_ {W : World} {base n : Nat} {A : Option Addr} (h : SpV W base A n) {i : Nat} (hi : i < n) : ∃ b v, A = some ⟨b, 0, none⟩ ∧ base ≤ b ∧ W.cell? ⟨b, i * 3 + 2, none⟩ = some v ∧ W.frozen? ⟨b, i * 3 + 2, none⟩ = false ∧ ∀ u, SpV (W.setCell ⟨b, i * 3 + 2, none⟩ u) base A n := by
  rcases h with h | ⟨b, cs, h1, h2, h3, h4⟩
  · omega
  · exact ⟨b, cs[i * 3 + 2], h1, h2, (h3.cell _).trans (Array.getElem?_eq_getElem (by omega)), h3.free _, fun u => .inr ⟨b, _, h1, h2, h3.put _ u, by rw [Array.size_setIfInBounds]; exact h4⟩⟩

set_option maxRecDepth 100000 in
set_option maxHeartbeats 2000000 in
theorem same_yes (w : World) (A B : Option Addr) (c c' : Nat) (us : List VaT) (ha : Rd w A (vcs us)) (hb : Rd w B (vcs us)) (hl : us.length ≤ 64) :
    Calls Try.prog 11 #[.slice A us.length c, .slice B us.length c'] w fun e w' => e = .returned (.bool true) ∧ Fr NoBlk w w' := by
  have HA := Lib.hid ha
  have HB := Lib.hid hb
  obtain ⟨n, hn⟩ : ∃ n, n = us.length := ⟨_, rfl⟩
  have HN := Lib.hid hn
  rw [← hn] at hl ⊢
  clear ha hb hn
  go_enter Try.func11, Try.ntmps11
  go_wp2_with fail
  go_loopw [13] (fun i wr => ∃ (k : Nat), k ≤ n ∧ i = .int .i64 (k : Int) ∧ Hid (Fr NoBlk w wr)) (fun i _ => (n - intOf i).toNat)
  case atStart => exact ⟨0, by omega, rfl, Fr.refl _ _⟩
  case round =>
    obtain ⟨k, hk, rfl, HF⟩ := hrel
    have hwk : IntKind.i64.wrap ((k : Int) + 1) = (k : Int) + 1 := by rw [IntWalk.i64_in _ (by omega)]
    by_cases hlt : k < n
    · have hki : (k : Int) < (n : Int) := by omega
      obtain ⟨x, hx⟩ : ∃ x, us[k]? = some x := ⟨_, List.getElem?_eq_getElem (by rw [← HN.out]; exact hlt)⟩
      obtain ⟨b, o, hA, a0, a1, a2⟩ := (HA.out.nofr HF.out).vcs hx
      obtain ⟨b', o', hB, b0, b1, b2⟩ := (HB.out.nofr HF.out).vcs hx
      obtain ⟨xs, xb, xv⟩ := x
      dsimp only at a0 a1 a2 b0 b1 b2
      subst hA hB
      generalize bstr xv = xw at *
      have e2 : (xw.toList != xw.toList) = false := by simp
      have e3 : (xw.toList == xw.toList) = true := by simp
      clear hx
      go_upto_region 6 with fail
      go_quiet (fail)
      have HFQ : Hid (Fr NoBlk w (wr.drewN nq)) := HF.out.trans ((Fr.refl _ _).drewN _)
      go_wp2_with fail
      go_roundw
      case rel => exact ⟨k + 1, by omega, by go_num, HFQ.out⟩
      case measure => simp [intOf]; omega
    · have hki : ¬ (k : Int) < (n : Int) := by omega
      go_wp2_with fail
      go_ret
      exact ⟨rfl, HF.out⟩
/-- the document's voter that has taken nothing. -/
def zvt : VaT := ⟨0, 0, []⟩
def zdv : List Value := .int .u64 0 :: (List.replicate 64 (.bool false) ++ vcs (List.replicate 64 zvt))
theorem zdv_in (w : World) : DvIn (w.alloc (.cells zdv.toArray 33)) w.heap.size 0 (fun _ => false) (fun _ => zvt) := by
  have hl : zdv.length = 257 := by
    unfold zdv
    rw [List.length_cons, List.length_append, List.length_replicate, vcs_len, List.length_replicate]
  refine ⟨zdv.toArray, Bk.new _ _ _, by rw [List.size_toArray]; exact hl, by rw [List.getElem?_toArray]; unfold zdv; rw [List.getElem?_cons_zero]; rfl, fun i hi => ?_, fun i hi => ?_⟩
  · rw [List.getElem?_toArray]
    unfold zdv
    rw [Nat.add_comm, List.getElem?_cons_succ, List.getElem?_append_left (by rw [List.length_replicate]; exact hi), List.getElem?_replicate, if_pos hi]
  · have key : ∀ j, j < 3 → zdv.toArray[65 + i * 3 + j]? = (vcc zvt)[j]? := fun j hj => by
      rw [List.getElem?_toArray]
      unfold zdv
      rw [show 65 + i * 3 + j = (64 + (i * 3 + j)) + 1 by omega, List.getElem?_cons_succ, List.getElem?_append_right (by rw [List.length_replicate]; omega), List.length_replicate, show 64 + (i * 3 + j) - 64 = i * 3 + j by omega]
      exact vcs_get _ i zvt (by rw [List.getElem?_replicate, if_pos hi]) j hj
    exact ⟨key 0 (by omega), key 1 (by omega), key 2 (by omega)⟩
end Go.Proofs.Yteeeokofampdeaa
