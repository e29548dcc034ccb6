/- The script of steps, opened. No condition. -/
import Derived.Test.YtlajhnplkfiiiaaLgU
import Derived.Test.YtlajhnplkfiiiaaLawp

namespace Go.Proofs.Ytlajhnplkfiiiaa
open Go.ChangeShapes Go.WideShapes Go.ChangeAt Go.RowKit Go.WideMaps Go.WideElems

section
variable {α : Type} (f : α → List Value) (k : Nat) (hf : ∀ x, (f x).length = k)
include hf
theorem cat_len (xs : List α) : (xs.flatMap f).length = xs.length * k := by
  induction xs with
  | nil => simp
  | cons x t ih => rw [List.flatMap_cons, List.length_append, hf, ih, List.length_cons, Nat.succ_mul, Nat.add_comm]
theorem cat_get (xs : List α) (i : Nat) (x : α) (h : xs[i]? = some x) (j : Nat) (hj : j < k) : (xs.flatMap f)[i * k + j]? = (f x)[j]? := by
  induction xs generalizing i with
  | nil => cases h
  | cons y t ih =>
    rw [List.flatMap_cons]
    cases i with
    | zero =>
      injection h with h
      subst h
      rw [List.getElem?_append_left (by rw [hf]; omega), Nat.zero_mul, Nat.zero_add]
    | succ i =>
      rw [List.getElem?_append_right (by rw [hf, Nat.succ_mul]; omega), hf, show (i + 1) * k + j - k = i * k + j from by rw [Nat.succ_mul]; omega]
      exact ih i h
theorem Rd.cat {w : World} {A : Option Addr} {xs : List α} (h : Rd w A (xs.flatMap f)) (hk : 0 < k) {i : Nat} {x : α} (hx : xs[i]? = some x) :
    ∃ b o, A = some ⟨b, o, none⟩ ∧ ∀ j v, (f x)[j]? = some v → w.cell? ⟨b, o + i * k + j, none⟩ = some v := by
  have hi := (List.getElem?_eq_some_iff.1 hx).1
  obtain ⟨b, o, rfl, hc⟩ := h (by rw [cat_len f k hf]; exact Nat.mul_pos (by omega) hk)
  refine ⟨b, o, rfl, fun j v hv => ?_⟩
  have hj := (List.getElem?_eq_some_iff.1 hv).1
  rw [hf] at hj
  have := hc (i * k + j) v ((cat_get f k hf xs i x hx j hj).trans hv)
  rwa [← Nat.add_assoc] at this
end

theorem no_spot {W : World} {a : Addr} {v : Value} (h0 : W.cell? a = some v) : a.spot = none := by
  unfold World.cell? at h0
  split at h0
  · split at h0
    · cases h0
    · rename_i h1 h2
      cases hs : a.spot with
      | none => rfl
      | some s => simp [hs] at h2
  · cases h0
theorem add_zero (a : Addr) : a.add 0 = a := by simp [Addr.add]
theorem add_lit (b o k : Nat) : Addr.add ⟨b, o, none⟩ k = ⟨b, o + k, none⟩ := by unfold Addr.add; split <;> simp_all
set_option maxRecDepth 100000 in
/-- a slice of structs of k cells, opened by what one of them is. -/
theorem open_cat {H : Type} {enc : TypeId × Value → H} {W : World} {r : Reach} {base : Nat} {v : Value} {d : DataW H} {p : List MemPlace} {T E : TypeId} {k : Nat} {α : Type} (f : α → List Value) (Q : α → Prop)
    (hf : ∀ x, (f x).length = k) (_hk0 : 0 < k) (hT : Try.prog.underlying T = some (.slice E)) (hk : Try.prog.cellsOf E = k)
    (one : ∀ {fuel : Nat} {cs : List Value} {x : DataW H × List MemPlace}, cs.length = k → DataW.trod enc Try.prog W 0 (fun _ => true) true fuel E cs = some x → ∃ a, cs = f a ∧ Q a)
    (hv : Value.okWide Try.prog W r base T v) (hd0 : DataW.Trod enc Try.prog W 0 (fun _ => true) true T v d p) :
    ∃ (A : Option Addr) (c : Nat) (xs : List α), v = .slice A xs.length c ∧ Rd W A (xs.flatMap f) ∧ (∀ x ∈ xs, Q x) ∧ xs.length ≤ c ∧ c ≤ maxLen := by
  obtain ⟨a0, len, cap, rfl⟩ := okWide_slice hT hv
  obtain ⟨fuel, hd⟩ := hd0
  rcases Deep.open_slice hT hd with ⟨hcs, hx⟩ | ⟨a, len', cap', m, n, D, Pl, hcs, _, hl, hm, hmm, hx, hel⟩
  · have hcs' : Value.slice a0 len cap = .slice none 0 0 := by simpa [Value.cells] using hcs
    injection hcs' with h1 h2 h3
    subst h1 h2 h3
    exact ⟨none, 0, [], rfl, Rd.none_ _ _, (fun _ h => by cases h), Nat.le_refl _, by decide⟩
  · have hcs' : Value.slice a0 len cap = .slice (some a) len' cap' := by simpa [Value.cells] using hcs
    injection hcs' with h1 h2 h3
    subst h1 h2 h3
    simp only [if_true] at hmm
    rw [hk] at hel
    have hps : ∀ n, n ≤ len → ∃ xs : List α, xs.length = n ∧ (∀ j v, (xs.flatMap f)[j]? = some v → W.cell? (a.add j) = some v) ∧ ∀ x ∈ xs, Q x := by
      intro n
      induction n with
      | zero => intro _; exact ⟨[], rfl, (fun j v h => by cases h), fun _ h => by cases h⟩
      | succ n ih =>
        intro hn
        obtain ⟨xs, h1, h2, h3⟩ := ih (by omega)
        obtain ⟨cs', hc', hd'⟩ := hel n (by omega)
        obtain ⟨_, hlen, hat⟩ := World.cells?_some hc'
        obtain ⟨s, e, hs⟩ := one hlen hd'
        refine ⟨xs ++ [s], by rw [List.length_append, h1]; rfl, ?_, ?_⟩
        · intro j v hj
          rw [List.flatMap_append] at hj
          have hone : [s].flatMap f = f s := by simp
          rw [hone] at hj
          have hxl : (xs.flatMap f).length = n * k := by rw [cat_len f k hf, h1]
          by_cases h : j < n * k
          · rw [List.getElem?_append_left (by rw [hxl]; exact h)] at hj
            exact h2 j v hj
          · rw [List.getElem?_append_right (by rw [hxl]; omega), hxl, ← e] at hj
            have hjk := (List.getElem?_eq_some_iff.1 hj).1
            have h4 := hat (j - n * k) (by omega)
            rw [hj, Deep.add_add, show n * k + (j - n * k) = j by omega] at h4
            exact h4
        · intro x hx
          rcases List.mem_append.1 hx with h | h
          · exact h3 x h
          · rw [List.mem_singleton.1 h]; exact hs
    obtain ⟨xs, hp1, hp2, hp3⟩ := hps len (Nat.le_refl _)
    refine ⟨some a, cap, xs, by rw [hp1], ?_, hp3, by omega, hm⟩
    intro hpos
    have hspot : a.spot = none := by
      have h0 := hp2 0 _ (List.getElem?_eq_getElem hpos)
      rw [add_zero] at h0
      exact no_spot h0
    obtain ⟨b, o, s⟩ := a
    simp only at hspot
    subst hspot
    exact ⟨b, o, rfl, fun j v hj => by rw [← add_lit]; exact hp2 j v hj⟩

abbrev Stp3 := Int × Int × Int
def spc (x : Stp3) : List Value := [.int .i64 x.1, .int .i64 x.2.1, .int .i64 x.2.2]
def spsc (xs : List Stp3) : List Value := xs.flatMap spc
theorem spc_len (x : Stp3) : (spc x).length = 3 := rfl
set_option maxRecDepth 100000 in
theorem stp_of_cells {H : Type} {enc : TypeId × Value → H} {W : World} {fuel : Nat} {cs : List Value} {x : DataW H × List MemPlace} (hl : cs.length = 3)
    (hd : DataW.trod enc Try.prog W 0 (fun _ => true) true fuel 35 cs = some x) : ∃ p : Stp3, cs = spc p ∧ True := by
  obtain ⟨ys, n, _, _, _, hyl, hf⟩ := DataW.trod_struct Try.underlying35 hd
  match cs, hl with
  | [v0, v1, v2], _ =>
    match ys, hyl with
    | [y0, y1, y2], _ =>
      have h0 := hf 0 _ rfl
      have h1 := hf 1 _ rfl
      have h2 := hf 2 _ rfl
      simp only [List.getElem?_cons_zero, List.getElem?_cons_succ] at h0 h1 h2
      obtain ⟨q0, e0, _, _⟩ := DataW.trod_int Try.underlying3 h0
      obtain ⟨q1, e1, _, _⟩ := DataW.trod_int Try.underlying3 h1
      obtain ⟨q2, e2, _, _⟩ := DataW.trod_int Try.underlying3 h2
      injection e0 with e0
      injection e1 with e1
      injection e2 with e2
      subst e0 e1 e2
      exact ⟨(q0, q1, q2), rfl, trivial⟩
set_option maxRecDepth 100000 in
theorem open_stps {H : Type} {enc : TypeId × Value → H} {W : World} {r : Reach} {base : Nat} {v : Value} {d : DataW H} {p : List MemPlace}
    (hv : Value.okWide Try.prog W r base 22 v) (hd : DataW.Trod enc Try.prog W 0 (fun _ => true) true 22 v d p) :
    ∃ (A : Option Addr) (c : Nat) (xs : List Stp3), v = .slice A xs.length c ∧ Rd W A (spsc xs) ∧ (∀ x ∈ xs, True) ∧ xs.length ≤ c ∧ c ≤ maxLen :=
  open_cat spc (fun _ => True) spc_len (by omega) Try.underlying22 (by kernel_rfl) (fun hl h => stp_of_cells hl h) hv hd
theorem Rd.stp {w : World} {A : Option Addr} {xs : List Stp3} (h : Rd w A (spsc xs)) {k : Nat} {x : Stp3} (hx : xs[k]? = some x) :
    ∃ b o, A = some ⟨b, o, none⟩ ∧ w.cell? ⟨b, o + k * 3, none⟩ = some (.int .i64 x.1) ∧ w.cell? ⟨b, o + k * 3 + 1, none⟩ = some (.int .i64 x.2.1) ∧ w.cell? ⟨b, o + k * 3 + 2, none⟩ = some (.int .i64 x.2.2) := by
  obtain ⟨b, o, hA, hc⟩ := Rd.cat spc 3 spc_len h (by omega) hx
  exact ⟨b, o, hA, hc 0 _ rfl, hc 1 _ rfl, hc 2 _ rfl⟩
end Go.Proofs.Ytlajhnplkfiiiaa
