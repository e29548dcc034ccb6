/- A script of calls on a disk, opened: five cells a call. No condition. The law's great: where it answers false the script is small. No condition but lengths. -/
import Derived.Test.YtokonhcphhpogaaDoorOpen2
import Derived.Test.YtokonhcphhpogaaDoorTexts
import Derived.Deep.Fields
import Derived.Lib.SmallJoins
import Derived.Test.YtokonhcphhpogaaDoorApp
namespace Go.Proofs.YtokonhcphhpogaaDoor
open Go.ChangeShapes Go.WideShapes Go.ChangeAt Go.RowKit Go.WideMaps Go.WideElems

/-- a call of a script. -/
structure Opn where
  kind : Int
  n : Int
  name : Bs
  data : Prt
  keeps : Nums
def opc (x : Opn) : List Value := [.int .i64 x.kind, .int .i64 x.n, st x.name, sl x.data, nsl x.keeps]
def opsc (xs : List Opn) : List Value := xs.flatMap opc
theorem opsc_len (xs : List Opn) : (opsc xs).length = xs.length * 5 := by
  induction xs with
  | nil => rfl
  | cons x t ih =>
    show (opc x ++ opsc t).length = _
    rw [List.length_append, ih, List.length_cons]
    show 5 + _ = _
    omega
theorem opsc_append (xs ys : List Opn) : opsc (xs ++ ys) = opsc xs ++ opsc ys := List.flatMap_append ..
theorem opsc_get (xs : List Opn) (k : Nat) (x : Opn) (h : xs[k]? = some x) (j : Nat) (hj : j < 5) : (opsc xs)[k * 5 + j]? = (opc x)[j]? := by
  induction xs generalizing k with
  | nil => cases h
  | cons y t ih =>
    cases k with
    | zero =>
      injection h with h
      subst h
      show (opc y ++ opsc t)[_]? = _
      rw [List.getElem?_append_left (by show _ < 5; omega), Nat.zero_mul, Nat.zero_add]
    | succ k =>
      show (opc y ++ opsc t)[_]? = _
      rw [List.getElem?_append_right (by show 5 ≤ _; omega), show (k + 1) * 5 + j - (opc y).length = k * 5 + j from by show _ - 5 = _; omega]
      exact ih k h
theorem Rd.opn {w : World} {A : Option Addr} {xs : List Opn} (h : Rd w A (opsc xs)) {k : Nat} {x : Opn} (hx : xs[k]? = some x) :
    ∃ b o, A = some ⟨b, o, none⟩ ∧ w.cell? ⟨b, o + k * 5, none⟩ = some (.int .i64 x.kind) ∧ w.cell? ⟨b, o + k * 5 + 1, none⟩ = some (.int .i64 x.n) ∧ w.cell? ⟨b, o + k * 5 + 2, none⟩ = some (st x.name) ∧
      w.cell? ⟨b, o + k * 5 + 3, none⟩ = some (sl x.data) ∧ w.cell? ⟨b, o + k * 5 + 4, none⟩ = some (nsl x.keeps) := by
  have hk := (List.getElem?_eq_some_iff.1 hx).1
  obtain ⟨b, o, rfl, hc⟩ := h (by rw [opsc_len]; omega)
  refine ⟨b, o, rfl, ?_, ?_, ?_, ?_, ?_⟩
  · exact hc _ _ ((opsc_get xs k x hx 0 (by omega)).trans rfl)
  · exact hc _ _ ((opsc_get xs k x hx 1 (by omega)).trans rfl)
  · exact hc _ _ ((opsc_get xs k x hx 2 (by omega)).trans rfl)
  · exact hc _ _ ((opsc_get xs k x hx 3 (by omega)).trans rfl)
  · exact hc _ _ ((opsc_get xs k x hx 4 (by omega)).trans rfl)

theorem size_of (s : ByteArray) : s.data.toList.length = s.size := by rw [Array.length_toList]; rfl

/-- what is known of a call that was handed in. -/
def OpIn (W : World) (x : Opn) : Prop := (Part W x.data ∧ x.data.2.2.length ≤ x.data.2.1 ∧ x.data.2.1 ≤ maxLen) ∧ (NumsIn W x.keeps ∧ x.keeps.2.2.length ≤ x.keeps.2.1 ∧ x.keeps.2.1 ≤ maxLen) ∧ x.name.length ≤ maxLen ∧ (Lit.int .i64 x.n).wf = true
set_option maxRecDepth 100000 in
theorem op_of_trod {H : Type} {enc : TypeId × Value → H} {W : World} {fuel : Nat} {a : Addr} {cs : List Value} {x : DataW H × List MemPlace}
    (hc : W.cells? 0 a 5 = some cs) (hd : DataW.trod enc Tryd.prog W 0 (fun _ => true) true fuel 40 cs = some x) :
    ∃ s : Opn, cs = opc s ∧ (∀ j v, (opc s)[j]? = some v → W.cell? (a.add j) = some v) ∧ OpIn W s := by
  obtain ⟨_, hlen, hat⟩ := World.cells?_some hc
  obtain ⟨ys, n, _, _, _, hyl, hf⟩ := DataW.trod_struct Tryd.underlying40 hd
  match cs, hlen with
  | [c0, c1, c2, c4, c5], _ =>
    match ys, hyl with
    | [y0, y1, y2, y4, y5], _ =>
      have h0 := hf 0 _ rfl
      have h1 := hf 1 _ rfl
      have h2 := hf 2 _ rfl
      have h4 := hf 3 _ rfl
      have h5 := hf 4 _ rfl
      simp only [List.getElem?_cons_zero, List.getElem?_cons_succ] at h0 h1 h2 h4 h5
      obtain ⟨z0, e0, _, _⟩ := DataW.trod_int Tryd.underlying3 h0
      obtain ⟨z1, e1, _, w1⟩ := DataW.trod_int Tryd.underlying3 h1
      obtain ⟨s2, e2, _, w2⟩ := DataW.trod_string Tryd.underlying9 h2
      obtain ⟨p, e4, hp, hl, hm⟩ := bytes_of_trod h4
      obtain ⟨q, e5, hq, hql, hqm⟩ := nums_of_trod h5
      injection e0 with e0
      injection e1 with e1
      injection e2 with e2
      subst e0 e1 e2 e4 e5
      have e : [Value.int .i64 z0, Value.int .i64 z1, Value.string s2, sl p, nsl q] = opc ⟨z0, z1, s2.data.toList, p, q⟩ := by
        unfold opc st
        dsimp only
        rw [bstr_eta]
      refine ⟨⟨z0, z1, s2.data.toList, p, q⟩, e, fun j v hj => ?_, ⟨hp, hl, hm⟩, ⟨hq, hql, hqm⟩, by show s2.data.toList.length ≤ _; rw [size_of]; exact w2, w1⟩
      rw [← e] at hj
      have hj4 := (List.getElem?_eq_some_iff.1 hj).1
      have := hat j (by simpa using hj4)
      rw [this]
      exact hj

set_option maxRecDepth 100000 in
theorem open_ops {H : Type} {enc : TypeId × Value → H} {W : World} {r : Reach} {base : Nat} {v : Value} {d : DataW H} {p : List MemPlace}
    (hv : Value.okWide Tryd.prog W r base 31 v) (hd0 : DataW.Trod enc Tryd.prog W 0 (fun _ => true) true 31 v d p) :
    ∃ (A : Option Addr) (c : Nat) (xs : List Opn), v = .slice A xs.length c ∧ Rd W A (opsc xs) ∧ (∀ x ∈ xs, OpIn W x) ∧ xs.length ≤ c ∧ c ≤ maxLen := by
  obtain ⟨a0, len, cap, rfl⟩ := okWide_slice Tryd.underlying31 hv
  obtain ⟨fuel, hd⟩ := hd0
  rcases Deep.open_slice Tryd.underlying31 hd with ⟨hcs, hx⟩ | ⟨a, len', cap', m, n, D, Pl, hcs, _, hl, hm, hmm, hx, hel⟩
  · have hcs' : Value.slice a0 len cap = .slice none 0 0 := by simpa [Value.cells] using hcs
    injection hcs' with h1 h2 h3
    subst h1 h2 h3
    exact ⟨none, 0, [], rfl, Rd.none_ _ _, (fun _ h => by cases h), Nat.le_refl _, by decide⟩
  · have hcs' : Value.slice a0 len cap = .slice (some a) len' cap' := by simpa [Value.cells] using hcs
    injection hcs' with h1 h2 h3
    subst h1 h2 h3
    simp only [if_true] at hmm
    have k5 : Tryd.prog.cellsOf 40 = 5 := by kernel_rfl
    rw [k5] at hel
    have hps : ∀ n, n ≤ len → ∃ xs : List Opn, xs.length = n ∧ (∀ j v, (opsc xs)[j]? = some v → W.cell? (a.add j) = some v) ∧ ∀ x ∈ xs, OpIn W x := by
      intro n
      induction n with
      | zero => intro _; exact ⟨[], rfl, (fun j v h => by cases h), fun _ h => by cases h⟩
      | succ n ih =>
        intro hn
        obtain ⟨xs, h1, h2, h3⟩ := ih (by omega)
        obtain ⟨cs', hc', hd'⟩ := hel n (by omega)
        obtain ⟨s, _, hs2, hs3⟩ := op_of_trod hc' hd'
        refine ⟨xs ++ [s], by rw [List.length_append, h1]; rfl, ?_, ?_⟩
        · intro j v hj
          rw [opsc_append] at hj
          have hone : opsc [s] = opc s := by simp [opsc]
          rw [hone] at hj
          by_cases h : j < n * 5
          · rw [List.getElem?_append_left (by rw [opsc_len, h1]; exact h)] at hj
            exact h2 j v hj
          · rw [List.getElem?_append_right (by rw [opsc_len, h1]; omega), opsc_len, h1] at hj
            have := hs2 _ v hj
            rw [Deep.add_add] at this
            rwa [show n * 5 + (j - n * 5) = j by omega] at this
        · intro x hx
          rcases List.mem_append.1 hx with h | h
          · exact h3 x h
          · rw [List.mem_singleton.1 h]; exact hs3
    obtain ⟨xs, hp1, hp2, hp3⟩ := hps len (Nat.le_refl _)
    refine ⟨some a, cap, xs, by rw [hp1], ?_, hp3, by omega, hm⟩
    intro hpos
    have hspot : a.spot = none := by
      have h0 := hp2 0 _ (List.getElem?_eq_getElem hpos)
      rw [add_nil] at h0
      exact no_spot h0
    obtain ⟨b, o, s⟩ := a
    simp only at hspot
    subst hspot
    exact ⟨b, o, rfl, fun j v hj => by rw [← add_lit]; exact hp2 j v hj⟩
end Go.Proofs.YtokonhcphhpogaaDoor

namespace Go.Proofs.YtokonhcphhpogaaDoor
open Go.RowKit

structure Small (xs : List Opn) : Prop where
  n : xs.length ≤ 40
  o : ∀ x ∈ xs, x.data.2.2.length ≤ 5000 ∧ x.name.length ≤ 200 ∧ x.keeps.2.2.length ≤ 100
def GreatPost (xs : List Opn) (e : Ending) : Prop := ∃ b, e = .returned (.bool b) ∧ (b = false → Small xs)
def opa (x : Opn) : Array Value := #[.int .i64 x.kind, .int .i64 x.n, st x.name, sl x.data, nsl x.keeps]

set_option maxRecDepth 100000 in
set_option maxHeartbeats 1000000 in
theorem great_any (w : World) (A : Option Addr) (c : Nat) (xs : List Opn) (hr : Rd w A (opsc xs)) (hx : ∀ x ∈ xs, OpIn w x) (hm : xs.length ≤ maxLen) :
    Calls Tryd.prog 13 #[.slice A xs.length c] w fun e w' => GreatPost xs e ∧ Fr NoBlk w w' := by
  have HR := Lib.hid hr
  have HX := Lib.hid hx
  clear hr hx
  unfold maxLen at hm
  by_cases h1 : 40 < xs.length
  · go_enter Tryd.func13, Tryd.ntmps13
    go_wp2_with fail
    go_ret
    exact ⟨⟨true, rfl, fun h => by cases h⟩, Fr.refl _ _⟩
  go_enter Tryd.func13, Tryd.ntmps13
  go_wp2_with fail
  go_loopw [10] (fun z wr => ∃ k : Nat, k ≤ xs.length ∧ z = .int .i64 k ∧ Hid (∀ j x, j < k → xs[j]? = some x → x.data.2.2.length ≤ 5000 ∧ x.name.length ≤ 200 ∧ x.keeps.2.2.length ≤ 100) ∧ Hid (Fr NoBlk w wr)) (fun z _ => xs.length - (intOf z).toNat)
  case atStart => exact ⟨0, by omega, rfl, (fun j _ h1 => absurd h1 (by omega)), Fr.refl _ _⟩
  case round =>
    obtain ⟨k, hk, rfl, HL, HF⟩ := hrel
    by_cases hlt : k < xs.length
    · obtain ⟨x, hx⟩ : ∃ x, xs[k]? = some x := ⟨_, List.getElem?_eq_getElem hlt⟩
      obtain ⟨b, o, hA, c0, c1, c2, c4, c5⟩ := (HR.out.nofr HF.out).opn hx
      have hv := HX.out x (List.mem_of_getElem? hx)
      have hm1 : x.data.2.2.length ≤ 9223372036854775807 := Nat.le_trans hv.1.2.1 hv.1.2.2
      have hm2 : x.name.length ≤ 9223372036854775807 := hv.2.2.1
      have hm4 : x.keeps.2.2.length ≤ 9223372036854775807 := Nat.le_trans hv.2.1.2.1 hv.2.1.2.2
      have HX2 : Hid (x.data.2.2.length ≤ 5000 → x.name.length ≤ 200 → x.keeps.2.2.length ≤ 100 → ∀ j y, j < k + 1 → xs[j]? = some y → y.data.2.2.length ≤ 5000 ∧ y.name.length ≤ 200 ∧ y.keeps.2.2.length ≤ 100) := by
        intro h h' h3 j y hj2 hy
        by_cases e : j = k
        · subst e; rw [hx] at hy; injection hy with hy; subst hy; exact ⟨h, h', h3⟩
        · exact HL.out j y (by omega) hy
      have HW : Hid (Fr NoBlk w (wr.alloc (.cells (opa x) 40))) := HF.out.trans ((Fr.refl _ _).alloc _)
      subst hA
      clear hx hv
      obtain ⟨kind, n, name, ⟨va, vc, vb⟩, ⟨ka, kc, kb⟩⟩ := x
      unfold opa at HW
      unfold st at c2 HW
      unfold sl at c4 HW
      unfold nsl at c5 HW
      dsimp only at c0 c1 c2 c4 c5 hm1 hm2 hm4 HX2 HW
      have e4 := bstr_size name
      generalize vb.length = vl at *
      generalize kb.length = kl at *
      by_cases hb1 : 5000 < vl
      · go_wp2_with fail
        go_ret
        exact ⟨⟨true, rfl, fun h => by cases h⟩, HW.out⟩
      by_cases hb2 : 200 < name.length
      · go_wp2_with fail
        go_ret
        exact ⟨⟨true, rfl, fun h => by cases h⟩, HW.out⟩
      by_cases hb4 : 100 < kl
      · go_wp2_with fail
        go_ret
        exact ⟨⟨true, rfl, fun h => by cases h⟩, HW.out⟩
      have HY := Lib.hid (HX2.out (by omega) (by omega) (by omega))
      go_wp2_with fail
      go_roundw
      case rel => exact ⟨k + 1, by omega, by go_num, HY, HW⟩
      case measure => simp [intOf]; omega
    · have HZ3 : Hid (∀ x ∈ xs, x.data.2.2.length ≤ 5000 ∧ x.name.length ≤ 200 ∧ x.keeps.2.2.length ≤ 100) := by
        intro x hx
        obtain ⟨j, hj, rfl⟩ := List.getElem_of_mem hx
        exact HL.out j _ (by omega) (List.getElem?_eq_getElem hj)
      go_wp2_with fail
      go_ret
      exact ⟨⟨false, rfl, fun _ => ⟨by omega, HZ3.out⟩⟩, HF.out⟩
end Go.Proofs.YtokonhcphhpogaaDoor
