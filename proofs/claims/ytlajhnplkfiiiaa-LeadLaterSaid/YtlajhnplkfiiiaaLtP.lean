/- Two leaders, one behind the other: what each knows behind k voters. No condition. -/
import Derived.Test.YtlajhnplkfiiiaaMajL
namespace Go.Proofs.Ytlajhnplkfiiiaa
open Go.RowKit Go.Maps

def ch : ByteArray := ⟨#[99, 104, 111, 115, 101, 110]⟩
/-- the i-th bit, as the law tests it. -/
def tkb (t : Nat) (i : Nat) : Bool := decide (bits .and .u64 ((t : Int) / 2 ^ i) 1 = 1)
/-- the first leader behind k empty promises. -/
structure FA (n k : Nat) (L : LdrS) : Prop where
  vo : L.voters = n
  sl : L.slot = 0
  vl : ∀ x, L.vals x = none
  nv : L.nv = 0
  nt : L.nt = 0
  tk : ∀ x, L.tk x = false
  ld : L.leads = decide (n < 2 * k)
  np : L.leads = false → L.np = k ∧ ∀ y, L.pr y = decide (0 ≤ y ∧ y < (k : Int))
  npb : L.np ≤ k
theorem FA.new (n : Nat) : FA n 0 (newS (n : Int) 0) := ⟨Int.toNat_natCast n, rfl, fun _ => rfl, rfl, rfl, fun _ => rfl, (decide_eq_false (by omega)).symm, fun _ => ⟨rfl, fun y => (decide_eq_false (by omega)).symm⟩, Nat.le_refl _⟩
theorem FA.step {n k : Nat} {L : LdrS} (h : FA n k L) (hk : k < n) : FA n (k + 1) (promS L (k : Int) []) := by
  unfold promS
  by_cases hl : L.leads = true
  · rw [if_pos (.inl hl)]
    have h1 := h.ld
    rw [hl] at h1
    have h2 := of_decide_eq_true h1.symm
    exact ⟨h.vo, h.sl, h.vl, h.nv, h.nt, h.tk, by rw [hl]; exact (decide_eq_true (by omega)).symm, (fun e => by rw [hl] at e; cases e), Nat.le_succ_of_le h.npb⟩
  · have hf : L.leads = false := by simpa using hl
    obtain ⟨h1, h2⟩ := h.np hf
    have hh : hearB L.pr L.voters (k : Int) = true := by
      unfold hearB
      rw [h2, h.vo, decide_eq_false (by omega), decide_eq_true (by omega), decide_eq_true (by omega)]
      rfl
    rw [if_neg (by rw [hf, hh]; simp)]
    simp only [List.foldl_nil]
    rw [h.vo, h1]
    by_cases hc : n < 2 * (k + 1)
    · rw [if_pos hc]
      exact ⟨rfl, h.sl, h.vl, h.nv, h.nt, h.tk, (decide_eq_true hc).symm, (fun e => by cases e), Nat.zero_le _⟩
    · rw [if_neg hc]
      refine ⟨rfl, h.sl, h.vl, h.nv, h.nt, h.tk, by show L.leads = _; rw [hf]; exact (decide_eq_false hc).symm, fun _ => ⟨rfl, fun y => ?_⟩, Nat.le_refl _⟩
      show hearP L.pr n (k : Int) y = _
      unfold hearP
      rw [h.vo] at hh
      rw [if_pos hh]
      rw [h2, ← Bool.decide_or]
      exact decide_eq_decide.2 (by omega)
/-- the first leader behind k voters of which some took. -/
structure FB (n k t : Nat) (L : LdrS) : Prop where
  vo : L.voters = n
  ld : L.leads = true
  nv : L.nv ≤ 1
  nt : L.nt ≤ k
  lo : 2 * cnt (tkb t) k ≤ n → L.slot = 0 ∧ L.vals 0 = some (0, 0, ch) ∧ (∀ x, x ≠ 0 → L.vals x = none) ∧ L.nt = cnt (tkb t) k ∧ ∀ y, L.tk y = (decide (0 ≤ y ∧ y < (k : Int)) && tkb t y.toNat)
  hi : n < 2 * cnt (tkb t) k → L.slot = 1 ∧ L.vals 1 = none
theorem FA.offer {n t : Nat} {L : LdrS} (h : FA n n L) (hn : 1 ≤ n) : FB n 0 t (offS L ch) := by
  have hl : L.leads = true := by rw [h.ld]; exact decide_eq_true (by omega)
  have hv : valOS L = none := by unfold valOS; rw [if_pos hl, h.vl]; rfl
  have ho : offBS L = true := by unfold offBS; rw [hv, hl, h.sl]; rfl
  unfold offS
  rw [if_pos ho]
  refine ⟨h.vo, hl, by show L.nv + 1 ≤ 1; rw [h.nv]; exact Nat.le_refl _, by show L.nt ≤ 0; rw [h.nt]; exact Nat.le_refl _, fun _ => ⟨h.sl, ?_, fun x hx => ?_, h.nt, fun y => ?_⟩, fun e => absurd e (Nat.not_lt_zero _)⟩
  · show updK L.vals (L.slot : Int) _ 0 = _
    rw [h.sl]
    exact updK_same ..
  · show updK L.vals (L.slot : Int) _ x = _
    rw [updK_other _ _ (by rw [h.sl]; exact hx)]
    exact h.vl x
  · show L.tk y = _
    rw [h.tk, decide_eq_false (by omega)]
    rfl
theorem cnt_yes {f : Nat → Bool} {k : Nat} (h : f k = true) : cnt f (k + 1) = cnt f k + 1 := by
  show cnt _ _ + _ = _
  rw [if_pos h]
theorem cnt_not {f : Nat → Bool} {k : Nat} (h : f k = false) : cnt f (k + 1) = cnt f k := by
  show cnt _ _ + _ = _
  rw [if_neg (by rw [h]; decide)]
  rfl
theorem bit_skip {t k : Nat} (h : tkb t k = false) (y : Int) : (decide (0 ≤ y ∧ y < (k : Int)) && tkb t y.toNat) = (decide (0 ≤ y ∧ y < ((k + 1 : Nat) : Int)) && tkb t y.toNat) := by
  by_cases e : y = (k : Int)
  · subst e
    rw [Int.toNat_natCast, h, Bool.and_false, Bool.and_false]
  · rw [decide_eq_decide.2 (show (0 ≤ y ∧ y < (k : Int)) ↔ (0 ≤ y ∧ y < ((k + 1 : Nat) : Int)) by omega)]
theorem bit_hear {t k : Nat} (h : tkb t k = true) (y : Int) : (decide (y = (k : Int)) || (decide (0 ≤ y ∧ y < (k : Int)) && tkb t y.toNat)) = (decide (0 ≤ y ∧ y < ((k + 1 : Nat) : Int)) && tkb t y.toNat) := by
  by_cases e : y = (k : Int)
  · subst e
    rw [Int.toNat_natCast, h, Bool.and_true, Bool.and_true, decide_eq_true rfl, Bool.true_or]
    exact (decide_eq_true (by omega)).symm
  · rw [decide_eq_false e, Bool.false_or, decide_eq_decide.2 (show (0 ≤ y ∧ y < (k : Int)) ↔ (0 ≤ y ∧ y < ((k + 1 : Nat) : Int)) by omega)]
theorem FB.skip {n k t : Nat} {L : LdrS} (h : FB n k t L) (ht : tkb t k = false) : FB n (k + 1) t L := by
  refine ⟨h.vo, h.ld, h.nv, Nat.le_succ_of_le h.nt, ?_, ?_⟩
  · rw [cnt_not ht]
    intro e
    obtain ⟨a, b, c, d, f⟩ := h.lo e
    exact ⟨a, b, c, d, fun y => (f y).trans (bit_skip ht y)⟩
  · rw [cnt_not ht]
    exact h.hi
theorem FB.take {n k t : Nat} {L : LdrS} (h : FB n k t L) (ht : tkb t k = true) (hk : k < n) : FB n (k + 1) t (takenS L (k : Int) 0).1 ∧ (decide (n < 2 * cnt (tkb t) k) || (takenS L (k : Int) 0).2.isSome) = decide (n < 2 * cnt (tkb t) (k + 1)) := by
  have hcy := cnt_yes ht
  by_cases hlo : 2 * cnt (tkb t) k ≤ n
  · obtain ⟨a, b, c, d, f⟩ := h.lo hlo
    have hv : valOS L = some ch := by unfold valOS; rw [if_pos h.ld, a]; show (L.vals 0).map _ = _; rw [b]; rfl
    have hh : hearB L.tk L.voters (k : Int) = true := by
      unfold hearB
      rw [f, h.vo, decide_eq_false (by omega), decide_eq_true (by omega), decide_eq_true (by omega)]
      rfl
    unfold takenS
    rw [hv]
    dsimp only
    rw [if_neg (by rw [a, hh]; simp), h.vo, d]
    by_cases hc : n < 2 * (cnt (tkb t) k + 1)
    · rw [if_pos hc]
      refine ⟨⟨rfl, h.ld, by show L.nv - 1 ≤ 1; have := h.nv; omega, Nat.zero_le _, fun e => by rw [hcy] at e; omega, fun _ => ⟨by show L.slot + 1 = 1; rw [a], ?_⟩⟩, ?_⟩
      · show updK L.vals (L.slot : Int) none 1 = none
        rw [a, updK_other _ _ (by decide)]
        exact c 1 (by decide)
      · rw [hcy, decide_eq_true hc]
        exact Bool.or_true _
    · rw [if_neg hc]
      refine ⟨⟨rfl, h.ld, h.nv, by show cnt (tkb t) k + 1 ≤ k + 1; have := cnt_le (tkb t) k; omega, fun _ => ⟨a, b, c, hcy.symm, fun y => ?_⟩, fun e => by rw [hcy] at e; omega⟩, ?_⟩
      · show hearP L.tk n (k : Int) y = _
        unfold hearP
        rw [h.vo] at hh
        rw [if_pos hh]
        rw [f]
        exact bit_hear ht y
      · rw [hcy, decide_eq_false (by omega), decide_eq_false hc]
        rfl
  · obtain ⟨a, b⟩ := h.hi (by omega)
    have hv : valOS L = none := by unfold valOS; rw [if_pos h.ld, a]; show (L.vals 1).map _ = _; rw [b]; rfl
    unfold takenS
    rw [hv]
    refine ⟨⟨h.vo, h.ld, h.nv, Nat.le_succ_of_le h.nt, fun e => by rw [hcy] at e; omega, fun _ => ⟨a, b⟩⟩, ?_⟩
    rw [hcy, decide_eq_true (by omega), decide_eq_true (by omega)]
    rfl
/-- what a voter tells. -/
def tells (t k : Nat) : List VtS := if tkb t k then [(0, 1, ch)] else []
/-- the second leader behind k voters of which some promised. -/
structure FC (n k t s : Nat) (L : LdrS) : Prop where
  vo : L.voters = n
  sl : L.slot = 0
  vl : L.vals 0 = none ∨ L.vals 0 = some (0, 1, ch)
  nv : L.nv ≤ k
  np : L.np ≤ k
  K : ∃ K, K ≤ k ∧ (L.leads = true → n < 2 * cnt (tkb s) K) ∧ (L.leads = false → K = k ∧ L.np = cnt (tkb s) k ∧ ∀ y, L.pr y = (decide (0 ≤ y ∧ y < (k : Int)) && tkb s y.toNat)) ∧ (L.vals 0 = none → ∀ j, j < K → tkb s j = true → tkb t j = false)
theorem FC.new (n t s : Nat) : FC n 0 t s (newS (n : Int) 0) := ⟨Int.toNat_natCast n, rfl, .inl rfl, Nat.le_refl _, Nat.le_refl _, 0, Nat.le_refl _, (fun e => by cases e), fun _ => ⟨rfl, rfl, fun y => by show false = _; rw [decide_eq_false (by omega)]; rfl⟩, fun _ j hj => absurd hj (Nat.not_lt_zero _)⟩
theorem FC.skip {n k t s : Nat} {L : LdrS} (h : FC n k t s L) (hs : tkb s k = false) : FC n (k + 1) t s L := by
  obtain ⟨K, h1, h2, h3, h4⟩ := h.K
  refine ⟨h.vo, h.sl, h.vl, Nat.le_succ_of_le h.nv, Nat.le_succ_of_le h.np, ?_⟩
  by_cases hl : L.leads = true
  · exact ⟨K, by omega, h2, (fun e => by rw [hl] at e; cases e), h4⟩
  · have hf : L.leads = false := by simpa using hl
    obtain ⟨rfl, h5, h6⟩ := h3 hf
    refine ⟨K + 1, Nat.le_refl _, (fun e => by rw [hf] at e; cases e), fun _ => ⟨rfl, by rw [cnt_not hs]; exact h5, fun y => (h6 y).trans (bit_skip hs y)⟩, fun e j hj hsj => ?_⟩
    by_cases ej : j = K
    · subst ej; rw [hs] at hsj; cases hsj
    · exact h4 e j (by omega) hsj
theorem told_tells {L : LdrS} {t k : Nat} (hsl : L.slot = 0) (hv : L.vals 0 = none ∨ L.vals 0 = some (0, 1, ch)) :
    ∃ f m, (tells t k).foldl toldS L = { L with vals := f, nv := m } ∧ m ≤ L.nv + 1 ∧ (f 0 = none ∨ f 0 = some (0, 1, ch)) ∧ (f 0 = none → tkb t k = false ∧ L.vals 0 = none) := by
  unfold tells
  by_cases ht : tkb t k = true
  · rw [if_pos ht]
    simp only [List.foldl_cons, List.foldl_nil]
    unfold toldS
    rw [if_neg (by rw [hsl]; show ¬ ((0 : Int) < ((0 : Nat) : Int) ∨ (64 : Int) ≤ 0); omega)]
    rcases hv with e | e
    · dsimp only
      rw [e]
      dsimp only
      exact ⟨_, _, rfl, Nat.le_refl _, .inr (updK_same ..), fun h => by rw [updK_same] at h; cases h⟩
    · dsimp only
      rw [e]
      dsimp only
      rw [if_neg (Nat.lt_irrefl _)]
      exact ⟨L.vals, L.nv, rfl, Nat.le_succ _, .inr e, fun h => by rw [e] at h; cases h⟩
  · rw [if_neg ht]
    exact ⟨L.vals, L.nv, rfl, Nat.le_succ _, hv, fun h => ⟨by simpa using ht, h⟩⟩
theorem FC.take {n k t s : Nat} {L : LdrS} (h : FC n k t s L) (hs : tkb s k = true) (hk : k < n) : FC n (k + 1) t s (promS L (k : Int) (tells t k)) := by
  obtain ⟨K, h1, h2, h3, h4⟩ := h.K
  unfold promS
  by_cases hl : L.leads = true
  · rw [if_pos (.inl hl)]
    exact ⟨h.vo, h.sl, h.vl, Nat.le_succ_of_le h.nv, Nat.le_succ_of_le h.np, K, by omega, h2, (fun e => by rw [hl] at e; cases e), h4⟩
  · have hf : L.leads = false := by simpa using hl
    obtain ⟨rfl, h5, h6⟩ := h3 hf
    have hh : hearB L.pr L.voters (K : Int) = true := by
      unfold hearB
      rw [h6, h.vo, decide_eq_false (by omega), decide_eq_true (by omega), decide_eq_true (by omega)]
      rfl
    rw [if_neg (by rw [hf, hh]; simp)]
    obtain ⟨f, m, he, hm, hv1, hv2⟩ := told_tells (L := { L with pr := hearP L.pr L.voters (K : Int), np := L.np + 1 }) (t := t) (k := K) h.sl h.vl
    rw [he, h.vo, h5]
    have hcy := cnt_yes hs
    have hcl := cnt_le (tkb s) K
    have hall : f 0 = none → ∀ j, j < K + 1 → tkb s j = true → tkb t j = false := fun e j hj hsj => by
      obtain ⟨e1, e2⟩ := hv2 e
      by_cases ej : j = K
      · rw [ej]; exact e1
      · exact h4 e2 j (by omega) hsj
    have hnv := h.nv
    have hm' : m ≤ L.nv + 1 := hm
    by_cases hc : n < 2 * (cnt (tkb s) K + 1)
    · rw [if_pos hc]
      exact ⟨rfl, h.sl, hv1, by show m ≤ K + 1; omega, Nat.zero_le _, K + 1, Nat.le_refl _, fun _ => by rw [hcy]; exact hc, (fun e => by cases e), hall⟩
    · rw [if_neg hc]
      refine ⟨rfl, h.sl, hv1, by show m ≤ K + 1; omega, by show cnt (tkb s) K + 1 ≤ K + 1; omega, K + 1, Nat.le_refl _, (fun e => by rw [show L.leads = false from hf] at e; cases e), fun _ => ⟨rfl, hcy.symm, fun y => ?_⟩, hall⟩
      show hearP L.pr n (K : Int) y = _
      unfold hearP
      rw [h.vo] at hh
      rw [if_pos hh]
      rw [h6]
      exact bit_hear hs y
theorem cnt_cut (f : Nat → Bool) (K : Nat) : ∀ n, K ≤ n → cnt (fun i => decide (i < K) && f i) n = cnt f K := by
  have hlow : ∀ n, n ≤ K → cnt (fun i => decide (i < K) && f i) n = cnt f n := by
    intro n
    induction n with
    | zero => intro _; rfl
    | succ n ih =>
      intro h
      have e : (fun i => decide (i < K) && f i) n = f n := by
        show (decide (n < K) && f n) = _
        rw [decide_eq_true (show n < K by omega), Bool.true_and]
      cases hf : f n with
      | true => rw [cnt_yes (e.trans hf), cnt_yes hf, ih (by omega)]
      | false => rw [cnt_not (e.trans hf), cnt_not hf, ih (by omega)]
  intro n
  induction n with
  | zero =>
    intro h
    obtain rfl : K = 0 := by omega
    rfl
  | succ n ih =>
    intro h
    by_cases e : K = n + 1
    · rw [hlow (n + 1) (by omega), e]
    · have e2 : (fun i => decide (i < K) && f i) n = false := by
        show (decide (n < K) && f n) = _
        rw [decide_eq_false (show ¬ n < K by omega), Bool.false_and]
      rw [cnt_not e2]
      exact ih (by omega)
/-- a leader whom more than half have promised knows what was chosen. -/
theorem FC.last {n t s : Nat} {L : LdrS} (h : FC n n t s L) (hl : L.leads = true) (hd : n < 2 * cnt (tkb t) n) : valOS L = some ch ∧ offBS L = false := by
  obtain ⟨K, h1, h2, _, h4⟩ := h.K
  have h5 := h2 hl
  have hv : L.vals 0 = some (0, 1, ch) := by
    rcases h.vl with e | e
    · rcases meet_ (tkb t) (fun i => decide (i < K) && tkb s i) n with hm | hm | ⟨i, _, e1, e2⟩
      · omega
      · rw [cnt_cut _ _ _ h1] at hm
        omega
      · rw [Bool.and_eq_true, decide_eq_true_eq] at e2
        have := h4 e i e2.1 e2.2
        rw [e1] at this
        cases this
    · exact e
  have ho : valOS L = some ch := by unfold valOS; rw [if_pos hl, h.sl]; show (L.vals 0).map _ = _; rw [hv]; rfl
  exact ⟨ho, by unfold offBS; rw [ho]; rfl⟩
end Go.Proofs.Ytlajhnplkfiiiaa
