/- A script of calls on a store, opened: four cells a call. No condition. -/
import Derived.Test.YtkdcacajacndmaaOpenS
import Derived.Test.YtkdcacajacndmaaSb
import Derived.Deep.Slices
import Derived.Deep.Fields
import Derived.Lib.SmallJoins
namespace Go.Proofs.Ytkdcacajacndmaa
open Go.ChangeShapes Go.WideShapes Go.ChangeAt Go.RowKit Go.WideMaps Go.WideElems

def st (l : Bs) : Value := .string (bstr l)
theorem bstr_eta (s : ByteArray) : bstr s.data.toList = s := by cases s; simp [bstr]
theorem bstr_size (l : Bs) : (bstr l).size = l.length := by simp [bstr, ByteArray.size]
abbrev Prt := Option Addr × Nat × List UInt8
def sl (p : Prt) : Value := .slice p.1 p.2.2.length p.2.1
def Part (w : World) (p : Prt) : Prop := Rd w p.1 (cb p.2.2) ∧ (p.1 = none → p.2.1 = 0)
set_option maxRecDepth 100000 in
theorem bytes_of_trod {H : Type} {enc : TypeId × Value → H} {W : World} {fuel : Nat} {v : Value} {x : DataW H × List MemPlace}
    (hd : DataW.trod enc Try.prog W 0 (fun _ => true) true fuel 31 [v] = some x) :
    ∃ p : Prt, v = sl p ∧ Part W p ∧ p.2.2.length ≤ p.2.1 ∧ p.2.1 ≤ maxLen := by
  rcases open_ints Try.underlying31 Try.underlying5 (by kernel_rfl) hd with ⟨hcs, hx⟩ | ⟨a, len', cap', zs, hcs, _, hl, hm, hz, hx, hcell, hwz⟩
  · injection hcs with h1
    subst h1
    exact ⟨(none, 0, []), rfl, ⟨Rd.none_ _ _, fun _ => rfl⟩, Nat.le_refl _, by decide⟩
  · injection hcs with h1
    subst h1
    simp only [if_true] at hz
    obtain ⟨l, hl2⟩ := bytes_of_ints (zs.take len') (fun z hz' => hwz z (List.mem_of_mem_take hz'))
    have hll : l.length = len' := by
      have := congrArg List.length hl2
      rw [List.length_take, List.length_map] at this
      omega
    refine ⟨(some a, cap', l), by unfold sl; rw [hll], ⟨?_, fun h => by cases h⟩, by show l.length ≤ cap'; omega, hm⟩
    show Rd W (some a) (cb l)
    intro hpos
    rw [cb_length] at hpos
    have hspot : a.spot = none := by
      have h0 := hcell 0 (by omega)
      rw [show a.add 0 = a from by simp [Addr.add]] at h0
      unfold World.cell? at h0
      split at h0
      · split at h0
        · cases h0
        · rename_i h1 h2
          cases hs : a.spot with
          | none => rfl
          | some s => simp [hs] at h2
      · cases h0
    obtain ⟨b, o, s⟩ := a
    simp only at hspot
    subst hspot
    refine ⟨b, o, rfl, fun j u hu => ?_⟩
    have hj := (List.getElem?_eq_some_iff.1 hu).1
    rw [cb_length] at hj
    have h1 := hcell j (by omega)
    rw [show (⟨b, o, none⟩ : Addr).add j = ⟨b, o + j, none⟩ from by unfold Addr.add; split <;> simp_all] at h1
    rw [h1, ← hu]
    have h2 : (zs.take len')[j]? = (l.map fun x => ((x.toNat : Nat) : Int))[j]? := by rw [hl2]
    rw [List.getElem?_take, if_pos (by omega), List.getElem?_map, List.getElem?_eq_getElem hj] at h2
    unfold cb
    rw [List.getD_eq_getElem?_getD, h2, List.getElem?_map, List.getElem?_eq_getElem hj]
    rfl

/-- a call of a script. -/
structure Opn where
  kind : Int
  n : Int
  name : Bs
  data : Prt
def opc (x : Opn) : List Value := [.int .i64 x.kind, .int .i64 x.n, st x.name, sl x.data]
def opsc (xs : List Opn) : List Value := xs.flatMap opc
theorem opsc_len (xs : List Opn) : (opsc xs).length = xs.length * 4 := by
  induction xs with
  | nil => rfl
  | cons x t ih =>
    show (opc x ++ opsc t).length = _
    rw [List.length_append, ih, List.length_cons]
    show 4 + _ = _
    omega
theorem opsc_append (xs ys : List Opn) : opsc (xs ++ ys) = opsc xs ++ opsc ys := List.flatMap_append ..
theorem opsc_get (xs : List Opn) (k : Nat) (x : Opn) (h : xs[k]? = some x) (j : Nat) (hj : j < 4) : (opsc xs)[k * 4 + j]? = (opc x)[j]? := by
  induction xs generalizing k with
  | nil => cases h
  | cons y t ih =>
    cases k with
    | zero =>
      injection h with h
      subst h
      show (opc y ++ opsc t)[_]? = _
      rw [List.getElem?_append_left (by show _ < 4; omega), Nat.zero_mul, Nat.zero_add]
    | succ k =>
      show (opc y ++ opsc t)[_]? = _
      rw [List.getElem?_append_right (by show 4 ≤ _; omega), show (k + 1) * 4 + j - (opc y).length = k * 4 + j from by show _ - 4 = _; omega]
      exact ih k h
theorem Rd.opn {w : World} {A : Option Addr} {xs : List Opn} (h : Rd w A (opsc xs)) {k : Nat} {x : Opn} (hx : xs[k]? = some x) :
    ∃ b o, A = some ⟨b, o, none⟩ ∧ w.cell? ⟨b, o + k * 4, none⟩ = some (.int .i64 x.kind) ∧ w.cell? ⟨b, o + k * 4 + 1, none⟩ = some (.int .i64 x.n) ∧ w.cell? ⟨b, o + k * 4 + 2, none⟩ = some (st x.name) ∧ w.cell? ⟨b, o + k * 4 + 3, none⟩ = some (sl x.data) := by
  have hk := (List.getElem?_eq_some_iff.1 hx).1
  obtain ⟨b, o, rfl, hc⟩ := h (by rw [opsc_len]; omega)
  refine ⟨b, o, rfl, ?_, ?_, ?_, ?_⟩
  · exact hc _ _ ((opsc_get xs k x hx 0 (by omega)).trans rfl)
  · exact hc _ _ ((opsc_get xs k x hx 1 (by omega)).trans rfl)
  · exact hc _ _ ((opsc_get xs k x hx 2 (by omega)).trans rfl)
  · exact hc _ _ ((opsc_get xs k x hx 3 (by omega)).trans rfl)

theorem no_spot {W : World} {a : Addr} {v : Value} (h0 : W.cell? a = some v) : a.spot = none := by
  unfold World.cell? at h0
  split at h0
  · split at h0
    · cases h0
    · rename_i h1 h2
      cases hs : a.spot with
      | none => rfl
      | some s => simp [hs] at h2
  · cases h0
theorem add_nil (a : Addr) : a.add 0 = a := by simp [Addr.add]
theorem add_lit (b o k : Nat) : Addr.add ⟨b, o, none⟩ k = ⟨b, o + k, none⟩ := by unfold Addr.add; split <;> simp_all
theorem size_of (s : ByteArray) : s.data.toList.length = s.size := by rw [Array.length_toList]; rfl

/-- what is known of a call that was handed in. -/
def OpIn (W : World) (x : Opn) : Prop := (Part W x.data ∧ x.data.2.2.length ≤ x.data.2.1 ∧ x.data.2.1 ≤ maxLen) ∧ x.name.length ≤ maxLen ∧ (Lit.int .i64 x.n).wf = true ∧ (Lit.int .i64 x.kind).wf = true
set_option maxRecDepth 100000 in
theorem op_of_trod {H : Type} {enc : TypeId × Value → H} {W : World} {fuel : Nat} {a : Addr} {cs : List Value} {x : DataW H × List MemPlace}
    (hc : W.cells? 0 a 4 = some cs) (hd : DataW.trod enc Try.prog W 0 (fun _ => true) true fuel 33 cs = some x) :
    ∃ s : Opn, cs = opc s ∧ (∀ j v, (opc s)[j]? = some v → W.cell? (a.add j) = some v) ∧ OpIn W s := by
  obtain ⟨_, hlen, hat⟩ := World.cells?_some hc
  obtain ⟨ys, n, _, _, _, hyl, hf⟩ := DataW.trod_struct Try.underlying33 hd
  match cs, hlen with
  | [c0, c1, c2, c3], _ =>
    match ys, hyl with
    | [y0, y1, y2, y3], _ =>
      have h0 := hf 0 _ rfl
      have h1 := hf 1 _ rfl
      have h2 := hf 2 _ rfl
      have h3 := hf 3 _ rfl
      simp only [List.getElem?_cons_zero, List.getElem?_cons_succ] at h0 h1 h2 h3
      obtain ⟨z0, e0, _, w0⟩ := DataW.trod_int Try.underlying3 h0
      obtain ⟨z1, e1, _, w1⟩ := DataW.trod_int Try.underlying3 h1
      obtain ⟨s2, e2, _, w2⟩ := DataW.trod_string Try.underlying9 h2
      obtain ⟨p, e4, hp, hl, hm⟩ := bytes_of_trod h3
      injection e0 with e0
      injection e1 with e1
      injection e2 with e2
      subst e0 e1 e2 e4
      have e : [Value.int .i64 z0, Value.int .i64 z1, Value.string s2, sl p] = opc ⟨z0, z1, s2.data.toList, p⟩ := by
        unfold opc st
        dsimp only
        rw [bstr_eta]
      refine ⟨⟨z0, z1, s2.data.toList, p⟩, e, fun j v hj => ?_, ⟨hp, hl, hm⟩, by show s2.data.toList.length ≤ _; rw [size_of]; exact w2, w1, w0⟩
      rw [← e] at hj
      have hj4 := (List.getElem?_eq_some_iff.1 hj).1
      have := hat j (by simpa using hj4)
      rw [this]
      exact hj

set_option maxRecDepth 100000 in
theorem open_ops {H : Type} {enc : TypeId × Value → H} {W : World} {r : Reach} {base : Nat} {v : Value} {d : DataW H} {p : List MemPlace}
    (hv : Value.okWide Try.prog W r base 22 v) (hd0 : DataW.Trod enc Try.prog W 0 (fun _ => true) true 22 v d p) :
    ∃ (A : Option Addr) (c : Nat) (xs : List Opn), v = .slice A xs.length c ∧ Rd W A (opsc xs) ∧ (∀ x ∈ xs, OpIn W x) ∧ xs.length ≤ c ∧ c ≤ maxLen := by
  obtain ⟨a0, len, cap, rfl⟩ := okWide_slice Try.underlying22 hv
  obtain ⟨fuel, hd⟩ := hd0
  rcases Deep.open_slice Try.underlying22 hd with ⟨hcs, hx⟩ | ⟨a, len', cap', m, n, D, Pl, hcs, _, hl, hm, hmm, hx, hel⟩
  · have hcs' : Value.slice a0 len cap = .slice none 0 0 := by simpa [Value.cells] using hcs
    injection hcs' with h1 h2 h3
    subst h1 h2 h3
    exact ⟨none, 0, [], rfl, Rd.none_ _ _, (fun _ h => by cases h), Nat.le_refl _, by decide⟩
  · have hcs' : Value.slice a0 len cap = .slice (some a) len' cap' := by simpa [Value.cells] using hcs
    injection hcs' with h1 h2 h3
    subst h1 h2 h3
    simp only [if_true] at hmm
    have k6 : Try.prog.cellsOf 33 = 4 := by kernel_rfl
    rw [k6] at hel
    have hps : ∀ n, n ≤ len → ∃ xs : List Opn, xs.length = n ∧ (∀ j v, (opsc xs)[j]? = some v → W.cell? (a.add j) = some v) ∧ ∀ x ∈ xs, OpIn W x := by
      intro n
      induction n with
      | zero => intro _; exact ⟨[], rfl, (fun j v h => by cases h), fun _ h => by cases h⟩
      | succ n ih =>
        intro hn
        obtain ⟨xs, h1, h2, h3⟩ := ih (by omega)
        obtain ⟨cs', hc', hd'⟩ := hel n (by omega)
        obtain ⟨s, _, hs2, hs3⟩ := op_of_trod hc' hd'
        refine ⟨xs ++ [s], by rw [List.length_append, h1]; rfl, ?_, ?_⟩
        · intro j v hj
          rw [opsc_append] at hj
          have hone : opsc [s] = opc s := by simp [opsc]
          rw [hone] at hj
          by_cases h : j < n * 4
          · rw [List.getElem?_append_left (by rw [opsc_len, h1]; exact h)] at hj
            exact h2 j v hj
          · rw [List.getElem?_append_right (by rw [opsc_len, h1]; omega), opsc_len, h1] at hj
            have := hs2 _ v hj
            rw [Deep.add_add] at this
            rwa [show n * 4 + (j - n * 4) = j by omega] at this
        · intro x hx
          rcases List.mem_append.1 hx with h | h
          · exact h3 x h
          · rw [List.mem_singleton.1 h]; exact hs3
    obtain ⟨xs, hp1, hp2, hp3⟩ := hps len (Nat.le_refl _)
    refine ⟨some a, cap, xs, by rw [hp1], ?_, hp3, by omega, hm⟩
    intro hpos
    have hspot : a.spot = none := by
      have h0 := hp2 0 _ (List.getElem?_eq_getElem hpos)
      rw [add_nil] at h0
      exact no_spot h0
    obtain ⟨b, o, s⟩ := a
    simp only at hspot
    subst hspot
    exact ⟨b, o, rfl, fun j v hj => by rw [← add_lit]; exact hp2 j v hj⟩
end Go.Proofs.Ytkdcacajacndmaa
