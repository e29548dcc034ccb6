/- A script of calls on a voter, opened: four cells a call. No condition. -/
import Derived.Test.YteeeokofampdeaaLawp
import Derived.Test.YteeeokofampdeaaVoK
import Derived.Deep.Slices
import Derived.Deep.Fields
import Derived.Lib.SmallJoins
import Derived.Deep.RegionHeld3
namespace Go.Proofs.Yteeeokofampdeaa
open Go.ChangeShapes Go.WideShapes Go.ChangeAt Go.RowKit Go.WideMaps Go.WideElems Go.Maps

/-- a call of a script. -/
structure Opn where
  pr : Bool
  bal : Nat
  slot : Int
  val : Bs
def opc (x : Opn) : List Value := [.bool x.pr, .int .u64 (x.bal : Int), .int .i64 x.slot, .string (bstr x.val)]
def opa (x : Opn) : Array Value := #[.bool x.pr, .int .u64 (x.bal : Int), .int .i64 x.slot, .string (bstr x.val)]
def opsc (xs : List Opn) : List Value := xs.flatMap opc
def OpIn (x : Opn) : Prop := x.val.length ≤ 9223372036854775807 ∧ x.bal < 2 ^ 64
theorem opsc_len (xs : List Opn) : (opsc xs).length = xs.length * 4 := by
  induction xs with
  | nil => rfl
  | cons x t ih =>
    show (opc x ++ opsc t).length = _
    rw [List.length_append, ih, List.length_cons]
    show 4 + _ = _
    omega
theorem opsc_append (xs ys : List Opn) : opsc (xs ++ ys) = opsc xs ++ opsc ys := List.flatMap_append ..
theorem opsc_get (xs : List Opn) (k : Nat) (x : Opn) (h : xs[k]? = some x) (j : Nat) (hj : j < 4) : (opsc xs)[k * 4 + j]? = (opc x)[j]? := by
  induction xs generalizing k with
  | nil => cases h
  | cons y t ih =>
    cases k with
    | zero =>
      injection h with h
      subst h
      show (opc y ++ opsc t)[_]? = _
      rw [List.getElem?_append_left (by show _ < 4; omega), Nat.zero_mul, Nat.zero_add]
    | succ k =>
      show (opc y ++ opsc t)[_]? = _
      rw [List.getElem?_append_right (by show 4 ≤ _; omega), show (k + 1) * 4 + j - (opc y).length = k * 4 + j from by show _ - 4 = _; omega]
      exact ih k h
theorem Rd.opn {w : World} {A : Option Addr} {xs : List Opn} (h : Rd w A (opsc xs)) {k : Nat} {x : Opn} (hx : xs[k]? = some x) :
    ∃ b o, A = some ⟨b, o, none⟩ ∧ w.cell? ⟨b, o + k * 4, none⟩ = some (.bool x.pr) ∧ w.cell? ⟨b, o + k * 4 + 1, none⟩ = some (.int .u64 (x.bal : Int)) ∧ w.cell? ⟨b, o + k * 4 + 2, none⟩ = some (.int .i64 x.slot) ∧ w.cell? ⟨b, o + k * 4 + 3, none⟩ = some (.string (bstr x.val)) := by
  have hk := (List.getElem?_eq_some_iff.1 hx).1
  obtain ⟨b, o, rfl, hc⟩ := h (by rw [opsc_len]; omega)
  refine ⟨b, o, rfl, ?_, ?_, ?_, ?_⟩
  · exact hc _ _ ((opsc_get xs k x hx 0 (by omega)).trans rfl)
  · exact hc _ _ ((opsc_get xs k x hx 1 (by omega)).trans rfl)
  · exact hc _ _ ((opsc_get xs k x hx 2 (by omega)).trans rfl)
  · exact hc _ _ ((opsc_get xs k x hx 3 (by omega)).trans rfl)

theorem no_spot {W : World} {a : Addr} {v : Value} (h0 : W.cell? a = some v) : a.spot = none := by
  unfold World.cell? at h0
  split at h0
  · split at h0
    · cases h0
    · rename_i h1 h2
      cases hs : a.spot with
      | none => rfl
      | some s => simp [hs] at h2
  · cases h0
theorem add_nil (a : Addr) : a.add 0 = a := by simp [Addr.add]
theorem add_lit (b o k : Nat) : Addr.add ⟨b, o, none⟩ k = ⟨b, o + k, none⟩ := by unfold Addr.add; split <;> simp_all

theorem bstr_size (l : Bs) : (bstr l).size = l.length := by simp [bstr, ByteArray.size]
theorem bstr_eta (s : ByteArray) : bstr s.data.toList = s := by cases s; simp [bstr]
theorem size_of (s : ByteArray) : s.data.toList.length = s.size := by rw [Array.length_toList]; rfl
set_option maxRecDepth 100000 in
theorem opn_of {H : Type} {enc : TypeId × Value → H} {W : World} {fuel : Nat} {cs : List Value} {x : DataW H × List MemPlace} (hlen : cs.length = 4)
    (hd : DataW.trod enc Try.prog W 0 (fun _ => true) true fuel 35 cs = some x) : ∃ s : Opn, cs = opc s ∧ OpIn s := by
  obtain ⟨ys, n, _, _, _, hyl, hf⟩ := DataW.trod_struct Try.underlying35 hd
  match cs, hlen with
  | [c0, c1, c2, c3], _ =>
    match ys, hyl with
    | [y0, y1, y2, y3], _ =>
      have h0 := hf 0 _ rfl
      have h1 := hf 1 _ rfl
      have h2 := hf 2 _ rfl
      have h3 := hf 3 _ rfl
      simp only [List.getElem?_cons_zero, List.getElem?_cons_succ] at h0 h1 h2 h3
      obtain ⟨z0, e0, _⟩ := DataW.trod_bool Try.underlying4 h0
      obtain ⟨z1, e1, _, w1⟩ := DataW.trod_int Try.underlying27 h1
      obtain ⟨z2, e2, _, _⟩ := DataW.trod_int Try.underlying3 h2
      obtain ⟨s3, e3, _, l3⟩ := DataW.trod_string Try.underlying9 h3
      obtain ⟨m1, rfl, hm1⟩ := nat_u64 w1
      injection e0 with e0
      injection e1 with e1
      injection e2 with e2
      injection e3 with e3
      subst e0 e1 e2 e3
      refine ⟨⟨z0, m1, z2, s3.data.toList⟩, ?_, by show s3.data.toList.length ≤ _; rw [size_of]; exact l3, hm1⟩
      unfold opc
      rw [bstr_eta]
set_option maxRecDepth 100000 in
theorem opn_of_trod {H : Type} {enc : TypeId × Value → H} {W : World} {fuel : Nat} {a : Addr} {cs : List Value} {x : DataW H × List MemPlace}
    (hc : W.cells? 0 a 4 = some cs) (hd : DataW.trod enc Try.prog W 0 (fun _ => true) true fuel 35 cs = some x) :
    ∃ s : Opn, cs = opc s ∧ (∀ j v, (opc s)[j]? = some v → W.cell? (a.add j) = some v) ∧ OpIn s := by
  obtain ⟨_, hlen, hat⟩ := World.cells?_some hc
  obtain ⟨s, e, hs⟩ := opn_of hlen hd
  refine ⟨s, e, fun j v hj => ?_, hs⟩
  rw [← e] at hj
  have hj4 := (List.getElem?_eq_some_iff.1 hj).1
  rw [hat j (by omega)]
  exact hj

set_option maxRecDepth 100000 in
theorem open_opns {H : Type} {enc : TypeId × Value → H} {W : World} {r : Reach} {base : Nat} {v : Value} {d : DataW H} {p : List MemPlace}
    (hv : Value.okWide Try.prog W r base 22 v) (hd0 : DataW.Trod enc Try.prog W 0 (fun _ => true) true 22 v d p) :
    ∃ (A : Option Addr) (c : Nat) (xs : List Opn), v = .slice A xs.length c ∧ Rd W A (opsc xs) ∧ (∀ x ∈ xs, OpIn x) ∧ xs.length ≤ c ∧ c ≤ maxLen := by
  obtain ⟨a0, len, cap, rfl⟩ := okWide_slice Try.underlying22 hv
  obtain ⟨fuel, hd⟩ := hd0
  rcases Deep.open_slice Try.underlying22 hd with ⟨hcs, hx⟩ | ⟨a, len', cap', m, n, D, Pl, hcs, _, hl, hm, hmm, hx, hel⟩
  · have hcs' : Value.slice a0 len cap = .slice none 0 0 := by simpa [Value.cells] using hcs
    injection hcs' with h1 h2 h3
    subst h1 h2 h3
    exact ⟨none, 0, [], rfl, Rd.none_ _ _, (fun _ h => by cases h), Nat.le_refl _, by decide⟩
  · have hcs' : Value.slice a0 len cap = .slice (some a) len' cap' := by simpa [Value.cells] using hcs
    injection hcs' with h1 h2 h3
    subst h1 h2 h3
    simp only [if_true] at hmm
    have k4 : Try.prog.cellsOf 35 = 4 := by kernel_rfl
    rw [k4] at hel
    have hps : ∀ n, n ≤ len → ∃ xs : List Opn, xs.length = n ∧ (∀ j v, (opsc xs)[j]? = some v → W.cell? (a.add j) = some v) ∧ ∀ x ∈ xs, OpIn x := by
      intro n
      induction n with
      | zero => intro _; exact ⟨[], rfl, (fun j v h => by cases h), fun _ h => by cases h⟩
      | succ n ih =>
        intro hn
        obtain ⟨xs, h1, h2, h3⟩ := ih (by omega)
        obtain ⟨cs', hc', hd'⟩ := hel n (by omega)
        obtain ⟨s, _, hs2, hs3⟩ := opn_of_trod hc' hd'
        refine ⟨xs ++ [s], by rw [List.length_append, h1]; rfl, ?_, ?_⟩
        · intro j v hj
          rw [opsc_append] at hj
          have hone : opsc [s] = opc s := by simp [opsc]
          rw [hone] at hj
          by_cases h : j < n * 4
          · rw [List.getElem?_append_left (by rw [opsc_len, h1]; exact h)] at hj
            exact h2 j v hj
          · rw [List.getElem?_append_right (by rw [opsc_len, h1]; omega), opsc_len, h1] at hj
            have := hs2 _ v hj
            rw [Deep.add_add] at this
            rwa [show n * 4 + (j - n * 4) = j by omega] at this
        · intro x hx
          rcases List.mem_append.1 hx with h | h
          · exact h3 x h
          · rw [List.mem_singleton.1 h]; exact hs3
    obtain ⟨xs, hp1, hp2, hp3⟩ := hps len (Nat.le_refl _)
    refine ⟨some a, cap, xs, by rw [hp1], ?_, hp3, by omega, hm⟩
    intro hpos
    have hspot : a.spot = none := by
      have h0 := hp2 0 _ (List.getElem?_eq_getElem hpos)
      rw [add_nil] at h0
      exact no_spot h0
    obtain ⟨b, o, s⟩ := a
    simp only at hspot
    subst hspot
    exact ⟨b, o, rfl, fun j v hj => by rw [← add_lit]; exact hp2 j v hj⟩

set_option maxRecDepth 100000 in
theorem open_opn {H : Type} {enc : TypeId × Value → H} {W : World} {r : Reach} {base : Nat} {v : Value} {d : DataW H} {p : List MemPlace}
    (hv : Value.okWide Try.prog W r base 35 v) (hd : DataW.Trod enc Try.prog W 0 (fun _ => true) true 35 v d p) :
    ∃ o : Opn, v = .agg (opa o) ∧ OpIn o := by
  have k : Try.prog.cellsOf 35 = 4 := by kernel_rfl
  obtain ⟨cs, rfl, hsz⟩ := okWide_struct Try.underlying35 hv
  obtain ⟨fuel, hf⟩ := hd
  obtain ⟨o, ho, hi⟩ := opn_of (cs := cs.toList) (by rw [Array.length_toList, hsz, k]) hf
  refine ⟨o, ?_, hi⟩
  rw [show cs = opa o from Array.toList_inj.1 ho]
end Go.Proofs.Yteeeokofampdeaa
