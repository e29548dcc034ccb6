/- Opening an argument that is a message. No condition. -/
import Derived.Test.YtdpjmkgjjhcgeaaDoorOpen
import Derived.Test.YtdpjmkgjjhcgeaaDoorMsg
import Derived.Deep.Slices
import Derived.Deep.Fields
import Derived.SliceStrings
namespace Go.Proofs.YtdpjmkgjjhcgeaaDoor
open Go.ChangeShapes Go.WideShapes Go.ChangeAt Go.RowKit Go.WideMaps Go.WideElems
set_option maxRecDepth 100000

theorem no_spot {W : World} {a : Addr} {v : Value} (h0 : W.cell? a = some v) : a.spot = none := by
  unfold World.cell? at h0
  split at h0
  · split at h0
    · cases h0
    · rename_i h1 h2
      cases hs : a.spot with
      | none => rfl
      | some s => simp [hs] at h2
  · cases h0
theorem add_zero (a : Addr) : a.add 0 = a := by simp [Addr.add]
theorem add_lit (b o k : Nat) : Addr.add ⟨b, o, none⟩ k = ⟨b, o + k, none⟩ := by unfold Addr.add; split <;> simp_all

theorem i64_wf {z : Int} (h : (Lit.int .i64 z).wf = true) : nB z := by
  simp only [Lit.wf, Bool.and_eq_true, decide_eq_true_eq, show IntKind.min .i64 = -9223372036854775808 from by decide, show IntKind.max .i64 = 9223372036854775807 from by decide] at h
  exact h
theorem u64_wf {z : Int} (h : (Lit.int .u64 z).wf = true) : ∃ n : Nat, z = (n : Int) ∧ n < two64 := by
  simp only [Lit.wf, Bool.and_eq_true, decide_eq_true_eq, show IntKind.min .u64 = 0 from by decide, show IntKind.max .u64 = 18446744073709551615 from by decide] at h
  refine ⟨z.toNat, by omega, ?_⟩
  unfold two64
  omega
theorem vote_of_trod {H : Type} {enc : TypeId × Value → H} {W : World} {fuel : Nat} {a : Addr} {cs : List Value} {x : DataW H × List MemPlace}
    (hc : W.cells? 0 a 3 = some cs) (hd : DataW.trod enc Tryd.prog W 0 (fun _ => true) true fuel 48 cs = some x) :
    ∃ s : Vt, cs = vtc s ∧ (∀ j v, (vtc s)[j]? = some v → W.cell? (a.add j) = some v) ∧ s.value.length ≤ maxLen ∧ s.ballot < two64 ∧ nB s.slot := by
  obtain ⟨_, hlen, hat⟩ := World.cells?_some hc
  obtain ⟨ys, n, _, _, _, hyl, hf⟩ := DataW.trod_struct Tryd.underlying48 hd
  match cs, hlen with
  | [c0, c1, c2], _ =>
    match ys, hyl with
    | [y0, y1, y2], _ =>
      have h0 := hf 0 _ rfl
      have h1 := hf 1 _ rfl
      have h2 := hf 2 _ rfl
      simp only [List.getElem?_cons_zero, List.getElem?_cons_succ] at h0 h1 h2
      obtain ⟨z1, e1, _, w1⟩ := DataW.trod_int Tryd.underlying3 h0
      obtain ⟨z2, e2, _, w2⟩ := DataW.trod_int Tryd.underlying23 h1
      obtain ⟨s0, e0, _, w0⟩ := DataW.trod_string Tryd.underlying9 h2
      obtain ⟨n2, rfl, hn2⟩ := u64_wf w2
      injection e0 with e0
      injection e1 with e1
      injection e2 with e2
      subst e0 e1 e2
      have e : [Value.int .i64 z1, Value.int .u64 (n2 : Int), Value.string s0] = vtc ⟨z1, n2, s0.data.toList⟩ := by
        unfold vtc st
        dsimp only
        rw [bstr_eta]
      refine ⟨⟨z1, n2, s0.data.toList⟩, e, fun j v hj => ?_, by show s0.data.toList.length ≤ _; rw [size_of]; exact w0, hn2, i64_wf w1⟩
      rw [← e] at hj
      have hj4 := (List.getElem?_eq_some_iff.1 hj).1
      have := hat j (by simpa using hj4)
      rw [this]
      exact hj

theorem votes_of_trod {H : Type} {enc : TypeId × Value → H} {W : World} {fuel : Nat} {v : Value} {x : DataW H × List MemPlace}
    (hd : DataW.trod enc Tryd.prog W 0 (fun _ => true) true fuel 24 [v] = some x) :
    ∃ (A : Option Addr) (c : Nat) (xs : List Vt), v = .slice A xs.length c ∧ Rd W A (vtsc xs) ∧ (∀ x ∈ xs, x.value.length ≤ maxLen ∧ x.ballot < two64 ∧ nB x.slot) ∧ xs.length ≤ c ∧ c ≤ maxLen ∧ (A = none → c = 0) := by
  rcases Deep.open_slice Tryd.underlying24 hd with ⟨hcs, hx⟩ | ⟨a, len', cap', m, n, D, Pl, hcs, _, hl, hm, hmm, hx, hel⟩
  · injection hcs with h1
    subst h1
    exact ⟨none, 0, [], rfl, Rd.none_ _ _, (fun _ h => by cases h), Nat.le_refl _, by decide, fun _ => rfl⟩
  · injection hcs with h1
    subst h1
    simp only [if_true] at hmm
    have k4 : Tryd.prog.cellsOf 48 = 3 := by kernel_rfl
    rw [k4] at hel
    have hps : ∀ n, n ≤ len' → ∃ xs : List Vt, xs.length = n ∧ (∀ j v, (vtsc xs)[j]? = some v → W.cell? (a.add j) = some v) ∧ ∀ x ∈ xs, x.value.length ≤ maxLen ∧ x.ballot < two64 ∧ nB x.slot := by
      intro n
      induction n with
      | zero => intro _; exact ⟨[], rfl, (fun j v h => by cases h), fun _ h => by cases h⟩
      | succ n ih =>
        intro hn
        obtain ⟨xs, h1, h2, h3⟩ := ih (by omega)
        obtain ⟨cs', hc', hd'⟩ := hel n (by omega)
        obtain ⟨s, _, hs2, hs3⟩ := vote_of_trod hc' hd'
        refine ⟨xs ++ [s], by rw [List.length_append, h1]; rfl, ?_, ?_⟩
        · intro j v hj
          rw [vtsc_append] at hj
          have hone : vtsc [s] = vtc s := by simp [vtsc]
          rw [hone] at hj
          by_cases h : j < n * 3
          · rw [List.getElem?_append_left (by rw [vtsc_len, h1]; exact h)] at hj
            exact h2 j v hj
          · rw [List.getElem?_append_right (by rw [vtsc_len, h1]; omega), vtsc_len, h1] at hj
            have := hs2 _ v hj
            rw [Deep.add_add] at this
            rwa [show n * 3 + (j - n * 3) = j by omega] at this
        · intro x hx
          rcases List.mem_append.1 hx with h | h
          · exact h3 x h
          · rw [List.mem_singleton.1 h]; exact hs3
    obtain ⟨xs, hp1, hp2, hp3⟩ := hps len' (Nat.le_refl _)
    refine ⟨some a, cap', xs, by rw [hp1], ?_, hp3, by omega, hm, fun h => by cases h⟩
    intro hpos
    have hspot : a.spot = none := by
      have h0 := hp2 0 _ (List.getElem?_eq_getElem hpos)
      rw [add_zero] at h0
      exact no_spot h0
    obtain ⟨b, o, s⟩ := a
    simp only at hspot
    subst hspot
    exact ⟨b, o, rfl, fun j v hj => by rw [← add_lit]; exact hp2 j v hj⟩

theorem open_msg {H : Type} {enc : TypeId × Value → H} {W : World} {r : Reach} {base : Nat} {v : Value} {d : DataW H} {p : List MemPlace}
    (hv : Value.okWide Tryd.prog W r base 26 v) (hd : DataW.Trod enc Tryd.prog W 0 (fun _ => true) true 26 v d p) :
    ∃ m : Mg, v = mgv m ∧ MgIn W m := by
  have k : Tryd.prog.cellsOf 26 = 8 := by kernel_rfl
  obtain ⟨cs, rfl, hsz⟩ := okWide_struct Tryd.underlying26 hv
  obtain ⟨fuel, hf⟩ := hd
  obtain ⟨l⟩ := cs
  match l, hsz.trans k with
  | [v0, v1, v2, v3, v4, v5, v6, v7], _ =>
    obtain ⟨ys, n, _, _, _, hyl, hg⟩ := DataW.trod_struct Tryd.underlying26 hf
    match ys, hyl with
    | [y0, y1, y2, y3, y4, y5, y6, y7], _ =>
      have h0 := hg 0 _ rfl
      have h1 := hg 1 _ rfl
      have h2 := hg 2 _ rfl
      have h3 := hg 3 _ rfl
      have h4 := hg 4 _ rfl
      have h5 := hg 5 _ rfl
      have h6 := hg 6 _ rfl
      have h7 := hg 7 _ rfl
      simp only [List.getElem?_cons_zero, List.getElem?_cons_succ] at h0 h1 h2 h3 h4 h5 h6 h7
      obtain ⟨q0, e0, _, w0⟩ := DataW.trod_int Tryd.underlying3 h0
      obtain ⟨q1, e1, _, w1⟩ := DataW.trod_int Tryd.underlying3 h1
      obtain ⟨q2, e2, _, w2⟩ := DataW.trod_int Tryd.underlying3 h2
      obtain ⟨q3, e3, _, w3⟩ := DataW.trod_int Tryd.underlying3 h3
      obtain ⟨q4, e4, _, w4⟩ := DataW.trod_int Tryd.underlying3 h4
      obtain ⟨q5, e5, _, w5⟩ := DataW.trod_int Tryd.underlying23 h5
      obtain ⟨s6, e6, _, w6⟩ := DataW.trod_string Tryd.underlying9 h6
      obtain ⟨A, c, xs, rfl, hr, hk, hc, hm, hn⟩ := votes_of_trod h7
      obtain ⟨m5, rfl, hm5⟩ := u64_wf w5
      injection e0 with e0
      injection e1 with e1
      injection e2 with e2
      injection e3 with e3
      injection e4 with e4
      injection e5 with e5
      injection e6 with e6
      subst e0 e1 e2 e3 e4 e5 e6
      refine ⟨⟨q0, q1, q2, q3, q4, m5, s6.data.toList, A, c, xs⟩, ?_, ⟨hr, ⟨hc, hm, hn⟩, ⟨by show s6.data.toList.length ≤ _; rw [size_of]; exact w6, fun v hv => (hk v hv).1⟩, ⟨hm5, fun v hv => (hk v hv).2.1⟩, i64_wf w0, i64_wf w1, i64_wf w2, i64_wf w3, i64_wf w4, fun v hv => (hk v hv).2.2⟩⟩
      unfold mgv mga
      dsimp only
      rw [bstr_eta]
end Go.Proofs.YtdpjmkgjjhcgeaaDoor
