/- A script of what is done to a leader, opened: five cells a call; great and votes. No condition. -/
import Derived.Test.YtimfinpifngdiaaLawp
import Derived.Test.YtimfinpifngdiaaDl5
import Derived.Test.YtimfinpifngdiaaSpeaks12
import Derived.Deep.Slices
import Derived.Deep.Fields
import Derived.Lib.SmallJoins
namespace Go.Proofs.Ytimfinpifngdiaa
open Go.ChangeShapes Go.WideShapes Go.ChangeAt Go.RowKit Go.WideMaps Go.WideElems Go.Maps

theorem no_spot {W : World} {a : Addr} {v : Value} (h0 : W.cell? a = some v) : a.spot = none := by
  unfold World.cell? at h0
  split at h0
  · split at h0
    · cases h0
    · rename_i h1 h2
      cases hs : a.spot with
      | none => rfl
      | some s => simp [hs] at h2
  · cases h0
theorem add_nil (a : Addr) : a.add 0 = a := by simp [Addr.add]
theorem add_lit (b o k : Nat) : Addr.add ⟨b, o, none⟩ k = ⟨b, o + k, none⟩ := by unfold Addr.add; split <;> simp_all

def vtcL (v : VtS) : List Value := [.int .i64 v.1, .int .u64 (v.2.1 : Int), evS v.2.2]
theorem vtcL_eq (v : VtS) : (vtcS v).toList = vtcL v := rfl
set_option maxRecDepth 100000 in
theorem vote_of_trod {H : Type} {enc : TypeId × Value → H} {W : World} {fuel : Nat} {a : Addr} {cs : List Value} {x : DataW H × List MemPlace}
    (hc : W.cells? 0 a 3 = some cs) (hd : DataW.trod enc Try.prog W 0 (fun _ => true) true fuel 86 cs = some x) :
    ∃ s : VtS, cs = vtcL s ∧ (∀ j v, (vtcL s)[j]? = some v → W.cell? (a.add j) = some v) ∧ wf64 s.1 := by
  obtain ⟨_, hlen, hat⟩ := World.cells?_some hc
  obtain ⟨ys, n, _, _, _, hyl, hf⟩ := DataW.trod_struct Try.underlying86 hd
  match cs, hlen with
  | [c0, c1, c2], _ =>
    match ys, hyl with
    | [y0, y1, y2], _ =>
      have h0 := hf 0 _ rfl
      have h1 := hf 1 _ rfl
      have h2 := hf 2 _ rfl
      simp only [List.getElem?_cons_zero, List.getElem?_cons_succ] at h0 h1 h2
      obtain ⟨z0, e0, _, w0⟩ := DataW.trod_int Try.underlying3 h0
      obtain ⟨z1, e1, _, w1⟩ := DataW.trod_int Try.underlying29 h1
      obtain ⟨s2, e2, _, w2⟩ := DataW.trod_string Try.underlying9 h2
      obtain ⟨n1, rfl, hn1⟩ := nat_u64 w1
      injection e0 with e0
      injection e1 with e1
      injection e2 with e2
      subst e0 e1 e2
      refine ⟨(z0, n1, s2), rfl, fun j v hj => ?_, w0⟩
      have hj4 := (List.getElem?_eq_some_iff.1 hj).1
      have := hat j (by simpa [vtcL] using hj4)
      rw [this]
      exact hj
theorem votes_of_trod {H : Type} {enc : TypeId × Value → H} {W : World} {fuel : Nat} {v : Value} {x : DataW H × List MemPlace}
    (hd : DataW.trod enc Try.prog W 0 (fun _ => true) true fuel 32 [v] = some x) :
    ∃ (A : Option Addr) (c : Nat) (xs : List VtS), v = .slice A xs.length c ∧ Rd W A (vtsS xs) ∧ (∀ x ∈ xs, wf64 x.1) ∧ xs.length ≤ c ∧ c ≤ maxLen ∧ (A = none → c = 0) := by
  rcases Deep.open_slice Try.underlying32 hd with ⟨hcs, hx⟩ | ⟨a, len', cap', m, n, D, Pl, hcs, _, hl, hm, hmm, hx, hel⟩
  · injection hcs with h1
    subst h1
    exact ⟨none, 0, [], rfl, Rd.none_ _ _, (fun _ h => by cases h), Nat.le_refl _, by decide, fun _ => rfl⟩
  · injection hcs with h1
    subst h1
    simp only [if_true] at hmm
    have k4 : Try.prog.cellsOf 86 = 3 := by kernel_rfl
    rw [k4] at hel
    have hps : ∀ n, n ≤ len' → ∃ xs : List VtS, xs.length = n ∧ (∀ j v, (vtsS xs)[j]? = some v → W.cell? (a.add j) = some v) ∧ ∀ x ∈ xs, wf64 x.1 := by
      intro n
      induction n with
      | zero => intro _; exact ⟨[], rfl, (fun j v h => by cases h), fun _ h => by cases h⟩
      | succ n ih =>
        intro hn
        obtain ⟨xs, h1, h2, h3⟩ := ih (by omega)
        obtain ⟨cs', hc', hd'⟩ := hel n (by omega)
        obtain ⟨s, _, hs2, hs3⟩ := vote_of_trod hc' hd'
        refine ⟨xs ++ [s], by rw [List.length_append, h1]; rfl, ?_, ?_⟩
        · intro j v hj
          rw [vtsS_append] at hj
          have hone : vtsS [s] = vtcL s := by simp [vtsS, vtcL_eq]
          rw [hone] at hj
          by_cases h : j < n * 3
          · rw [List.getElem?_append_left (by rw [vtsS_len, h1]; exact h)] at hj
            exact h2 j v hj
          · rw [List.getElem?_append_right (by rw [vtsS_len, h1]; omega), vtsS_len, h1] at hj
            have := hs2 _ v hj
            rw [Deep.add_add] at this
            rwa [show n * 3 + (j - n * 3) = j by omega] at this
        · intro x hx
          rcases List.mem_append.1 hx with h | h
          · exact h3 x h
          · rw [List.mem_singleton.1 h]; exact hs3
    obtain ⟨xs, hp1, hp2, hp3⟩ := hps len' (Nat.le_refl _)
    refine ⟨some a, cap', xs, by rw [hp1], ?_, hp3, by omega, hm, fun h => by cases h⟩
    intro hpos
    have hspot : a.spot = none := by
      have h0 := hp2 0 _ (List.getElem?_eq_getElem hpos)
      rw [add_nil] at h0
      exact no_spot h0
    obtain ⟨b, o, s⟩ := a
    simp only at hspot
    subst hspot
    exact ⟨b, o, rfl, fun j v hj => by rw [← add_lit]; exact hp2 j v hj⟩


/-- a call of a script. -/
structure LdOp where
  kind : Int
  voter : Int
  slot : Int
  A : Option Addr
  c : Nat
  vs : List VtS
  value : ByteArray
def ldoc (x : LdOp) : List Value := [.int .i64 x.kind, .int .i64 x.voter, .int .i64 x.slot, .slice x.A x.vs.length x.c, .string x.value]
def ldoa (x : LdOp) : Array Value := #[.int .i64 x.kind, .int .i64 x.voter, .int .i64 x.slot, .slice x.A x.vs.length x.c, .string x.value]
def ldos (xs : List LdOp) : List Value := xs.flatMap ldoc
structure LdOpIn (W : World) (x : LdOp) : Prop where
  w1 : wf64 x.voter
  w2 : wf64 x.slot
  rd : Rd W x.A (vtsS x.vs)
  wv : ∀ v ∈ x.vs, wf64 v.1
  nil : x.A = none → x.c = 0
theorem ldos_len (xs : List LdOp) : (ldos xs).length = xs.length * 5 := by
  induction xs with
  | nil => rfl
  | cons x t ih =>
    show (ldoc x ++ ldos t).length = _
    rw [List.length_append, ih, List.length_cons]
    show 5 + _ = _
    omega
theorem ldos_append (xs ys : List LdOp) : ldos (xs ++ ys) = ldos xs ++ ldos ys := List.flatMap_append ..
theorem ldos_get (xs : List LdOp) (k : Nat) (x : LdOp) (h : xs[k]? = some x) (j : Nat) (hj : j < 5) : (ldos xs)[k * 5 + j]? = (ldoc x)[j]? := by
  induction xs generalizing k with
  | nil => cases h
  | cons y t ih =>
    cases k with
    | zero =>
      injection h with h
      subst h
      show (ldoc y ++ ldos t)[_]? = _
      rw [List.getElem?_append_left (by show _ < 5; omega), Nat.zero_mul, Nat.zero_add]
    | succ k =>
      show (ldoc y ++ ldos t)[_]? = _
      rw [List.getElem?_append_right (by show 5 ≤ _; omega), show (k + 1) * 5 + j - (ldoc y).length = k * 5 + j from by show _ - 5 = _; omega]
      exact ih k h
theorem Rd.ldop {w : World} {A : Option Addr} {xs : List LdOp} (h : Rd w A (ldos xs)) {k : Nat} {x : LdOp} (hx : xs[k]? = some x) :
    ∃ b o, A = some ⟨b, o, none⟩ ∧ w.cell? ⟨b, o + k * 5, none⟩ = some (.int .i64 x.kind) ∧ w.cell? ⟨b, o + k * 5 + 1, none⟩ = some (.int .i64 x.voter) ∧ w.cell? ⟨b, o + k * 5 + 2, none⟩ = some (.int .i64 x.slot) ∧
      w.cell? ⟨b, o + k * 5 + 3, none⟩ = some (.slice x.A x.vs.length x.c) ∧ w.cell? ⟨b, o + k * 5 + 4, none⟩ = some (.string x.value) := by
  have hk := (List.getElem?_eq_some_iff.1 hx).1
  obtain ⟨b, o, rfl, hc⟩ := h (by rw [ldos_len]; omega)
  exact ⟨b, o, rfl, hc _ _ ((ldos_get xs k x hx 0 (by omega)).trans rfl), hc _ _ ((ldos_get xs k x hx 1 (by omega)).trans rfl), hc _ _ ((ldos_get xs k x hx 2 (by omega)).trans rfl), hc _ _ ((ldos_get xs k x hx 3 (by omega)).trans rfl), hc _ _ ((ldos_get xs k x hx 4 (by omega)).trans rfl)⟩

set_option maxRecDepth 100000 in
theorem ldop_of_trod {H : Type} {enc : TypeId × Value → H} {W : World} {fuel : Nat} {a : Addr} {cs : List Value} {x : DataW H × List MemPlace}
    (hc : W.cells? 0 a 5 = some cs) (hd : DataW.trod enc Try.prog W 0 (fun _ => true) true fuel 34 cs = some x) :
    ∃ s : LdOp, cs = ldoc s ∧ (∀ j v, (ldoc s)[j]? = some v → W.cell? (a.add j) = some v) ∧ LdOpIn W s := by
  obtain ⟨_, hlen, hat⟩ := World.cells?_some hc
  obtain ⟨ys, n, _, _, _, hyl, hf⟩ := DataW.trod_struct Try.underlying34 hd
  match cs, hlen with
  | [c0, c1, c2, c3, c4], _ =>
    match ys, hyl with
    | [y0, y1, y2, y3, y4], _ =>
      have h0 := hf 0 _ rfl
      have h1 := hf 1 _ rfl
      have h2 := hf 2 _ rfl
      have h3 := hf 3 _ rfl
      have h4 := hf 4 _ rfl
      simp only [List.getElem?_cons_zero, List.getElem?_cons_succ] at h0 h1 h2 h3 h4
      obtain ⟨z0, e0, _, w0⟩ := DataW.trod_int Try.underlying3 h0
      obtain ⟨z1, e1, _, w1⟩ := DataW.trod_int Try.underlying3 h1
      obtain ⟨z2, e2, _, w2⟩ := DataW.trod_int Try.underlying3 h2
      obtain ⟨A3, d3, xs3, e3, r3, k3, l3, m3, n3⟩ := votes_of_trod h3
      obtain ⟨s4, e4, _, _⟩ := DataW.trod_string Try.underlying9 h4
      injection e0 with e0
      injection e1 with e1
      injection e2 with e2
      injection e4 with e4
      subst e0 e1 e2 e3 e4
      refine ⟨⟨z0, z1, z2, A3, d3, xs3, s4⟩, rfl, fun j v hj => ?_, ⟨w1, w2, r3, k3, n3⟩⟩
      have hj4 := (List.getElem?_eq_some_iff.1 hj).1
      have := hat j (by simpa [ldoc] using hj4)
      rw [this]
      exact hj
set_option maxRecDepth 100000 in
theorem open_ldos {H : Type} {enc : TypeId × Value → H} {W : World} {r : Reach} {base : Nat} {v : Value} {d : DataW H} {p : List MemPlace}
    (hv : Value.okWide Try.prog W r base 22 v) (hd0 : DataW.Trod enc Try.prog W 0 (fun _ => true) true 22 v d p) :
    ∃ (A : Option Addr) (c : Nat) (xs : List LdOp), v = .slice A xs.length c ∧ Rd W A (ldos xs) ∧ (∀ x ∈ xs, LdOpIn W x) ∧ xs.length ≤ c ∧ c ≤ maxLen := by
  obtain ⟨a0, len, cap, rfl⟩ := okWide_slice Try.underlying22 hv
  obtain ⟨fuel, hd⟩ := hd0
  rcases Deep.open_slice Try.underlying22 hd with ⟨hcs, hx⟩ | ⟨a, len', cap', m, n, D, Pl, hcs, _, hl, hm, hmm, hx, hel⟩
  · have hcs' : Value.slice a0 len cap = .slice none 0 0 := by simpa [Value.cells] using hcs
    injection hcs' with h1 h2 h3
    subst h1 h2 h3
    exact ⟨none, 0, [], rfl, Rd.none_ _ _, (fun _ h => by cases h), Nat.le_refl _, by decide⟩
  · have hcs' : Value.slice a0 len cap = .slice (some a) len' cap' := by simpa [Value.cells] using hcs
    injection hcs' with h1 h2 h3
    subst h1 h2 h3
    simp only [if_true] at hmm
    have k6 : Try.prog.cellsOf 34 = 5 := by kernel_rfl
    rw [k6] at hel
    have hps : ∀ n, n ≤ len → ∃ xs : List LdOp, xs.length = n ∧ (∀ j v, (ldos xs)[j]? = some v → W.cell? (a.add j) = some v) ∧ ∀ x ∈ xs, LdOpIn W x := by
      intro n
      induction n with
      | zero => intro _; exact ⟨[], rfl, (fun j v h => by cases h), fun _ h => by cases h⟩
      | succ n ih =>
        intro hn
        obtain ⟨xs, h1, h2, h3⟩ := ih (by omega)
        obtain ⟨cs', hc', hd'⟩ := hel n (by omega)
        obtain ⟨s, _, hs2, hs3⟩ := ldop_of_trod hc' hd'
        refine ⟨xs ++ [s], by rw [List.length_append, h1]; rfl, ?_, ?_⟩
        · intro j v hj
          rw [ldos_append] at hj
          have hone : ldos [s] = ldoc s := by simp [ldos]
          rw [hone] at hj
          by_cases h : j < n * 5
          · rw [List.getElem?_append_left (by rw [ldos_len, h1]; exact h)] at hj
            exact h2 j v hj
          · rw [List.getElem?_append_right (by rw [ldos_len, h1]; omega), ldos_len, h1] at hj
            have := hs2 _ v hj
            rw [Deep.add_add] at this
            rwa [show n * 5 + (j - n * 5) = j by omega] at this
        · intro x hx
          rcases List.mem_append.1 hx with h | h
          · exact h3 x h
          · rw [List.mem_singleton.1 h]; exact hs3
    obtain ⟨xs, hp1, hp2, hp3⟩ := hps len (Nat.le_refl _)
    refine ⟨some a, cap, xs, by rw [hp1], ?_, hp3, by omega, hm⟩
    intro hpos
    have hspot : a.spot = none := by
      have h0 := hp2 0 _ (List.getElem?_eq_getElem hpos)
      rw [add_nil] at h0
      exact no_spot h0
    obtain ⟨b, o, s⟩ := a
    simp only at hspot
    subst hspot
    exact ⟨b, o, rfl, fun j v hj => by rw [← add_lit]; exact hp2 j v hj⟩

end Go.Proofs.Ytimfinpifngdiaa
