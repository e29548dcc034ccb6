/- No two values are chosen at one place: what voters and leaders hold, step by step, by the data alone. No condition. -/
import Derived.Test.YtlajhnplkfiiiaaPrU
import Derived.Test.YtlajhnplkfiiiaaLe4J
import Derived.Test.YtlajhnplkfiiiaaCnt
namespace Go.Proofs.Ytlajhnplkfiiiaa
open Go.RowKit Go.Maps

/-- what was said so far: pv, xv: of each voter what it promised and holds; L: the leaders, b under the ballot b + 1; Vt: who ever voted, under which ballot, where; P: what was asked for under a ballot, where. -/
def Safe (n : Nat) (pv : Nat → Nat) (Vt : Nat → Nat → Int → Prop) (P : Nat → Int → Option Int) (c : Nat) (s : Int) (x : Int) : Prop :=
  ∀ d, d < c → ∃ Q : Nat → Bool, n < 2 * cnt Q n ∧ ∀ i, i < n → Q i = true → (Vt i d s ∧ P d s = some x) ∨ (¬ Vt i d s ∧ d < pv i)
def Chosen (n : Nat) (Vt : Nat → Nat → Int → Prop) (P : Nat → Int → Option Int) (c : Nat) (s : Int) (x : Int) : Prop :=
  P c s = some x ∧ ∃ Q : Nat → Bool, n < 2 * cnt Q n ∧ ∀ i, i < n → Q i = true → Vt i c s
/-- what holds of a leader under ballot c. -/
structure Lx (n : Nat) (pv : Nat → Nat) (Vt : Nat → Nat → Int → Prop) (P : Nat → Int → Option Int) (c : Nat) (L : LdrI) : Prop where
  vo : L.voters = n
  npb : L.np ≤ n
  ntc : L.nt = cnt (fun i => L.tk (i : Int)) n
  npc : L.leads = false → L.np = cnt (fun i => L.pr (i : Int)) n
  sl0 : L.leads = false → L.slot = 0
  l1 : L.leads = false → ∀ i, i < n → L.pr (i : Int) = true → c ≤ pv i ∧ ∀ d s, d < c → Vt i d s → ∃ q β x, L.vals s = some (q, β, x) ∧ d ≤ β
  l2 : L.leads = false → ∀ s q β x, L.vals s = some (q, β, x) → β < c ∧ P β s = some x
  l3 : L.leads = true → ∀ s, (L.slot : Int) ≤ s → (∀ q β x, L.vals s = some (q, β, x) → Safe n pv Vt P c s x) ∧ (L.vals s = none → ∀ x, Safe n pv Vt P c s x)
  l3b : L.leads = true → ∀ s x, (L.slot : Int) ≤ s → P c s = some x → s = (L.slot : Int) ∧ ∃ q β, L.vals s = some (q, β, x)
  l4 : L.leads = false → ∀ s, P c s = none
  l5 : ∀ i, i < n → L.tk (i : Int) = true → Vt i c (L.slot : Int)
/-- what holds of a voter. -/
structure Vx (Vt : Nat → Int → Prop) (P : Nat → Int → Option Int) (p : Nat) (xs : List ItU) : Prop where
  v0 : ∀ s v, (s, v) ∈ xs → v.slot = s ∧ 0 ≤ s ∧ s < 64
  v1 : ∀ s v, (s, v) ∈ xs → v.bal ≤ p ∧ Vt v.bal s ∧ P v.bal s = some v.val ∧ ∀ c, Vt c s → c ≤ v.bal
  v2 : ∀ c s, Vt c s → c ≤ p ∧ ∃ v, (s, v) ∈ xs
structure Px (n : Nat) (pv : Nat → Nat) (xv : Nat → List ItU) (L : Nat → LdrI) (Vt : Nat → Nat → Int → Prop) (P : Nat → Int → Option Int) (ch : Int → Option Int) : Prop where
  vx : ∀ i, i < n → Vx (Vt i) P (pv i) (xv i)
  v3 : ∀ i c s, i < n → Vt i c s → ∃ x, P c s = some x
  p1 : ∀ c s x, P c s = some x → Safe n pv Vt P c s x
  lx : ∀ b, b < 4 → Lx n pv Vt P (b + 1) (L b)
  chx : ∀ s y, ch s = some y → ∃ c, Chosen n Vt P c s y
theorem Safe.mono {n : Nat} {pv pv' : Nat → Nat} {Vt Vt' : Nat → Nat → Int → Prop} {P P' : Nat → Int → Option Int} {c : Nat} {s x : Int} (h : Safe n pv Vt P c s x) (hp : ∀ i, i < n → pv i ≤ pv' i) (hP : ∀ d y, P d s = some y → P' d s = some y) (hV : ∀ i d, i < n → Vt i d s → Vt' i d s) (hN : ∀ i d, i < n → Vt' i d s → ¬ Vt i d s → pv i ≤ d) : Safe n pv' Vt' P' c s x := fun d hd => by
  obtain ⟨Q, h1, h2⟩ := h d hd
  refine ⟨Q, h1, fun i hi hq => ?_⟩
  rcases h2 i hi hq with ⟨a, b⟩ | ⟨a, b⟩
  · exact .inl ⟨hV i d hi a, hP d x b⟩
  · refine .inr ⟨fun e => ?_, ?_⟩
    · have := hN i d hi e a; omega
    · have := hp i hi; omega
/-- two that are chosen at one place are one. -/
theorem Chosen.one {n : Nat} {pv : Nat → Nat} {Vt : Nat → Nat → Int → Prop} {P : Nat → Int → Option Int} {c c' : Nat} {s y y' : Int} (h : Chosen n Vt P c s y) (h' : Chosen n Vt P c' s y') (hp : ∀ c s x, P c s = some x → Safe n pv Vt P c s x) : y = y' := by
  have key : ∀ {c c' : Nat} {y y' : Int}, Chosen n Vt P c s y → Chosen n Vt P c' s y' → c < c' → y = y' := fun {c c' y y'} h h' hlt => by
    obtain ⟨Q, q1, q2⟩ := hp c' s y' h'.1 c hlt
    obtain ⟨Q', r1, r2⟩ := h.2
    rcases meet_ Q Q' n with hm | hm | ⟨i, hi, e1, e2⟩
    · omega
    · omega
    · have hv := r2 i hi e2
      rcases q2 i hi e1 with ⟨_, b⟩ | ⟨a, _⟩
      · have := h.1
        rw [b] at this
        injection this with this
        exact this.symm
      · exact absurd hv a
  rcases Nat.lt_trichotomy c c' with hlt | rfl | hgt
  · exact key h h' hlt
  · have h1 := h.1
    rw [h'.1] at h1
    injection h1 with h1
    exact h1.symm
  · exact (key h' h hgt).symm
theorem Chosen.mono {n : Nat} {Vt Vt' : Nat → Nat → Int → Prop} {P P' : Nat → Int → Option Int} {c : Nat} {s y : Int} (h : Chosen n Vt P c s y) (hP : ∀ d s y, P d s = some y → P' d s = some y) (hV : ∀ i d s, i < n → Vt i d s → Vt' i d s) : Chosen n Vt' P' c s y := by
  obtain ⟨h1, Q, h2, h3⟩ := h
  exact ⟨hP _ _ _ h1, Q, h2, fun i hi hq => hV i c s hi (h3 i hi hq)⟩
/-- the same leader when voters go on: nothing new under its own ballot, unless it leads. -/
theorem Lx.mono {n : Nat} {pv pv' : Nat → Nat} {Vt Vt' : Nat → Nat → Int → Prop} {P P' : Nat → Int → Option Int} {c : Nat} {L : LdrI} (h : Lx n pv Vt P c L) (hp : ∀ i, i < n → pv i ≤ pv' i) (hP : ∀ d s y, P d s = some y → P' d s = some y) (hV : ∀ i d s, i < n → Vt i d s → Vt' i d s) (hN : ∀ i d s, i < n → Vt' i d s → ¬ Vt i d s → pv i ≤ d)
    (h4 : L.leads = false → ∀ s, P' c s = none) (h3 : L.leads = true → ∀ s x, (L.slot : Int) ≤ s → P' c s = some x → s = (L.slot : Int) ∧ ∃ q β, L.vals s = some (q, β, x)) : Lx n pv' Vt' P' c L := by
  refine ⟨h.vo, h.npb, h.ntc, h.npc, h.sl0, fun hl i hi hpr => ?_, fun hl s q β x hv => ?_, fun hl s hs => ⟨fun q β x hv => ((h.l3 hl s hs).1 q β x hv).mono hp (fun d y => hP d s y) (fun i d => hV i d s) (fun i d => hN i d s), fun hv x => ((h.l3 hl s hs).2 hv x).mono hp (fun d y => hP d s y) (fun i d => hV i d s) (fun i d => hN i d s)⟩, h3, h4, fun i hi ht => hV _ _ _ hi (h.l5 i hi ht)⟩
  · obtain ⟨a, b⟩ := h.l1 hl i hi hpr
    refine ⟨Nat.le_trans a (hp i hi), fun d s hd hv => ?_⟩
    by_cases ho : Vt i d s
    · exact b d s hd ho
    · have := hN i d s hi hv ho; omega
  · obtain ⟨a, b⟩ := h.l2 hl s q β x hv
    exact ⟨a, hP _ _ _ b⟩
/-- what a list of votes does to what a leader knows. -/
theorem told_fold (vs : List VtI) : ∀ (L : LdrI), L.slot = 0 → (∀ v ∈ vs, 0 ≤ v.1 ∧ v.1 < 64) →
    ∃ f m, vs.foldl toldI L = { L with vals := f, nv := m } ∧ m ≤ L.nv + vs.length ∧
      (∀ s q β x, f s = some (q, β, x) → L.vals s = some (q, β, x) ∨ ∃ v ∈ vs, v.1 = s ∧ v.2.1 = β ∧ v.2.2 = x) ∧
      (∀ s q β x, L.vals s = some (q, β, x) → ∃ q' β' x', f s = some (q', β', x') ∧ β ≤ β') ∧
      (∀ v ∈ vs, ∃ q' β' x', f v.1 = some (q', β', x') ∧ v.2.1 ≤ β') := by
  induction vs with
  | nil => exact fun L _ _ => ⟨L.vals, L.nv, rfl, Nat.le_refl _, fun s q β x h => .inl h, fun s q β x h => ⟨q, β, x, h, Nat.le_refl _⟩, fun v h => by cases h⟩
  | cons v t ih =>
    intro L hs hv
    obtain ⟨hv0, hv1⟩ := hv v (List.mem_cons_self ..)
    have hone : ∃ f m, toldI L v = { L with vals := f, nv := m } ∧ m ≤ L.nv + 1 ∧ (∀ s q β x, f s = some (q, β, x) → L.vals s = some (q, β, x) ∨ (v.1 = s ∧ v.2.1 = β ∧ v.2.2 = x)) ∧
        (∀ s q β x, L.vals s = some (q, β, x) → ∃ q' β' x', f s = some (q', β', x') ∧ β ≤ β') ∧ ∃ q' β' x', f v.1 = some (q', β', x') ∧ v.2.1 ≤ β' := by
      unfold toldI
      rw [if_neg (by rw [hs]; omega)]
      cases hl : L.vals v.1 with
      | none =>
        refine ⟨_, _, rfl, Nat.le_refl _, fun s q β x h => ?_, fun s q β x h => ?_, v.1, v.2.1, v.2.2, updK_same .., Nat.le_refl _⟩
        · by_cases e : s = v.1
          · subst e
            rw [updK_same] at h
            injection h with h
            subst h
            exact .inr ⟨rfl, rfl, rfl⟩
          · rw [updK_other _ _ e] at h
            exact .inl h
        · by_cases e : s = v.1
          · subst e; rw [hl] at h; cases h
          · exact ⟨q, β, x, by rw [updK_other _ _ e]; exact h, Nat.le_refl _⟩
      | some u =>
        dsimp only
        by_cases hb : u.2.1 < v.2.1
        · rw [if_pos hb]
          refine ⟨_, L.nv, rfl, Nat.le_succ _, fun s q β x h => ?_, fun s q β x h => ?_, v.1, v.2.1, v.2.2, updK_same .., Nat.le_refl _⟩
          · by_cases e : s = v.1
            · subst e
              rw [updK_same] at h
              injection h with h
              subst h
              exact .inr ⟨rfl, rfl, rfl⟩
            · rw [updK_other _ _ e] at h
              exact .inl h
          · by_cases e : s = v.1
            · subst e
              rw [hl] at h
              injection h with h
              subst h
              exact ⟨v.1, v.2.1, v.2.2, updK_same .., Nat.le_of_lt hb⟩
            · exact ⟨q, β, x, by rw [updK_other _ _ e]; exact h, Nat.le_refl _⟩
        · rw [if_neg hb]
          exact ⟨L.vals, L.nv, rfl, Nat.le_succ _, fun s q β x h => .inl h, fun s q β x h => ⟨q, β, x, h, Nat.le_refl _⟩, u.1, u.2.1, u.2.2, hl, by omega⟩
    obtain ⟨f1, m1, e1, a1, a2, a3, a4⟩ := hone
    rw [List.foldl_cons, e1]
    obtain ⟨f, m, e2, b1, b2, b3, b4⟩ := ih { L with vals := f1, nv := m1 } hs (fun u hu => hv u (List.mem_cons_of_mem _ hu))
    refine ⟨f, m, e2, ?_, fun s q β x h => ?_, fun s q β x h => ?_, fun u hu => ?_⟩
    · have h1 : m ≤ m1 + t.length := b1
      rw [List.length_cons]
      omega
    · rcases b2 s q β x h with h | ⟨u, hu, e⟩
      · rcases a2 s q β x h with h | h
        · exact .inl h
        · exact .inr ⟨v, List.mem_cons_self .., h⟩
      · exact .inr ⟨u, List.mem_cons_of_mem _ hu, e⟩
    · obtain ⟨q', β', x', h1, h2⟩ := a3 s q β x h
      obtain ⟨q2, β2, x2, h3, h4⟩ := b3 s q' β' x' h1
      exact ⟨q2, β2, x2, h3, by omega⟩
    · rcases List.mem_cons.1 hu with rfl | hu
      · obtain ⟨q', β', x', h1, h2⟩ := a4
        obtain ⟨q2, β2, x2, h3, h4⟩ := b3 _ q' β' x' h1
        exact ⟨q2, β2, x2, h3, by omega⟩
      · exact b4 u hu
def tri (x : ItU) : VtI := (x.2.slot, x.2.bal, x.2.val)
def setN {α : Type} (f : Nat → α) (i : Nat) (a : α) : Nat → α := fun j => if j = i then a else f j
theorem setN_same {α : Type} (f : Nat → α) (i : Nat) (a : α) : setN f i a i = a := if_pos rfl
theorem setN_other {α : Type} (f : Nat → α) {i j : Nat} (a : α) (h : j ≠ i) : setN f i a j = f j := if_neg h
theorem cnt_hear {f : Int → Bool} {n i : Nat} (hi : i < n) (h0 : f (i : Int) = false) : cnt (fun j => decide ((j : Int) = (i : Int)) || f (j : Int)) n = cnt (fun j => f (j : Int)) n + 1 := by
  have hlow : ∀ m, m ≤ i → cnt (fun j => decide ((j : Int) = (i : Int)) || f (j : Int)) m = cnt (fun j => f (j : Int)) m := by
    intro m
    induction m with
    | zero => intro _; rfl
    | succ m ih =>
      intro h
      have e : (fun j : Nat => decide ((j : Int) = (i : Int)) || f (j : Int)) m = f (m : Int) := by
        show (decide ((m : Int) = (i : Int)) || f (m : Int)) = _
        rw [decide_eq_false (by omega), Bool.false_or]
      cases hf : f (m : Int) with
      | true => rw [cnt_yes (e.trans hf), cnt_yes (f := fun j => f (j : Int)) hf, ih (by omega)]
      | false => rw [cnt_not (e.trans hf), cnt_not (f := fun j => f (j : Int)) hf, ih (by omega)]
  induction n with
  | zero => omega
  | succ n ih =>
    by_cases e : n = i
    · subst e
      have e1 : (fun j : Nat => decide ((j : Int) = (n : Int)) || f (j : Int)) n = true := by
        show (decide ((n : Int) = (n : Int)) || _) = _
        rw [decide_eq_true rfl, Bool.true_or]
      rw [cnt_yes e1, cnt_not (f := fun j => f (j : Int)) h0, hlow n (Nat.le_refl _)]
    · have e2 : (fun j : Nat => decide ((j : Int) = (i : Int)) || f (j : Int)) n = f (n : Int) := by
        show (decide ((n : Int) = (i : Int)) || f (n : Int)) = _
        rw [decide_eq_false (by omega), Bool.false_or]
      cases hf : f (n : Int) with
      | true => rw [cnt_yes (e2.trans hf), cnt_yes (f := fun j => f (j : Int)) hf, ih (by omega)]
      | false => rw [cnt_not (e2.trans hf), cnt_not (f := fun j => f (j : Int)) hf, ih (by omega)]
end Go.Proofs.Ytlajhnplkfiiiaa
