/- Opening an argument that is a transaction. No condition. -/
import Derived.Test.YtdgjjkmgdjiliaaRight
import Derived.Test.YtdgjjkmgdjiliaaLawp
import Derived.Deep.Slices
import Derived.Deep.Fields
import Derived.SliceStrings
import Derived.Lib.SmallJoins
namespace Go.Proofs.Ytdgjjkmgdjiliaa
open Go.ChangeShapes Go.WideShapes Go.ChangeAt Go.RowKit Go.WideMaps Go.WideElems
set_option maxRecDepth 100000

theorem bytes_of_ints (zs : List Int) (h : ∀ n ∈ zs, (Lit.int .u8 n).wf = true) : ∃ l : List UInt8, zs = l.map fun x => ((x.toNat : Nat) : Int) := by
  induction zs with
  | nil => exact ⟨[], rfl⟩
  | cons z t ih =>
    obtain ⟨l, rfl⟩ := ih fun n hn => h n (List.mem_cons_of_mem _ hn)
    have hz := h z (List.mem_cons_self ..)
    simp only [Lit.wf, Bool.and_eq_true, decide_eq_true_eq, show IntKind.min .u8 = 0 from by decide, show IntKind.max .u8 = 255 from by decide] at hz
    refine ⟨UInt8.ofNat z.toNat :: l, ?_⟩
    simp only [List.map_cons, UInt8.toNat_ofNat']
    congr 1
    omega
theorem no_spot {W : World} {a : Addr} {v : Value} (h0 : W.cell? a = some v) : a.spot = none := by
  unfold World.cell? at h0
  split at h0
  · split at h0
    · cases h0
    · rename_i h1 h2
      cases hs : a.spot with
      | none => rfl
      | some s => simp [hs] at h2
  · cases h0
theorem add_zero (a : Addr) : a.add 0 = a := by simp [Addr.add]
theorem add_lit (b o k : Nat) : Addr.add ⟨b, o, none⟩ k = ⟨b, o + k, none⟩ := by unfold Addr.add; split <;> simp_all

theorem bytes_of_trod {H : Type} {enc : TypeId × Value → H} {W : World} {fuel : Nat} {v : Value} {x : DataW H × List MemPlace}
    (hd : DataW.trod enc Try.prog W 0 (fun _ => true) true fuel 96 [v] = some x) :
    ∃ p : Prt, v = sl p ∧ Part W p ∧ p.2.2.length ≤ p.2.1 ∧ p.2.1 ≤ maxLen := by
  rcases open_ints Try.underlying96 Try.underlying5 (by kernel_rfl) hd with ⟨hcs, hx⟩ | ⟨a, len', cap', zs, hcs, _, hl, hm, hz, hx, hcell, hwz⟩
  · injection hcs with h1
    subst h1
    exact ⟨(none, 0, []), rfl, ⟨Rd.none_ _ _, fun _ => rfl⟩, Nat.le_refl _, by decide⟩
  · injection hcs with h1
    subst h1
    simp only [if_true] at hz
    obtain ⟨l, hl2⟩ := bytes_of_ints (zs.take len') (fun z hz' => hwz z (List.mem_of_mem_take hz'))
    have hll : l.length = len' := by
      have := congrArg List.length hl2
      rw [List.length_take, List.length_map] at this
      omega
    refine ⟨(some a, cap', l), by unfold sl; rw [hll], ⟨?_, fun h => by cases h⟩, by show l.length ≤ cap'; omega, hm⟩
    show Rd W (some a) (cb l)
    intro hpos
    rw [cb_length] at hpos
    have hspot : a.spot = none := by
      have h0 := hcell 0 (by omega)
      rw [add_zero] at h0
      exact no_spot h0
    obtain ⟨b, o, s⟩ := a
    simp only at hspot
    subst hspot
    refine ⟨b, o, rfl, fun j u hu => ?_⟩
    have hj := (List.getElem?_eq_some_iff.1 hu).1
    rw [cb_length] at hj
    have h1 := hcell j (by omega)
    rw [add_lit] at h1
    rw [h1, ← hu]
    have h2 : (zs.take len')[j]? = (l.map fun x => ((x.toNat : Nat) : Int))[j]? := by rw [hl2]
    rw [List.getElem?_take, if_pos (by omega), List.getElem?_map, List.getElem?_eq_getElem hj] at h2
    unfold cb
    rw [List.getD_eq_getElem?_getD, h2, List.getElem?_map, List.getElem?_eq_getElem hj]
    rfl

theorem size_of (s : ByteArray) : s.data.toList.length = s.size := by rw [Array.length_toList]; rfl
theorem bstr_eta (s : ByteArray) : bstr s.data.toList = s := by cases s; simp [bstr]
theorem texts_of_trod {H : Type} {enc : TypeId × Value → H} {W : World} {fuel : Nat} {v : Value} {x : DataW H × List MemPlace}
    (hd : DataW.trod enc Try.prog W 0 (fun _ => true) true fuel 32 [v] = some x) :
    ∃ (A : Option Addr) (c : Nat) (xs : List Bs), v = .slice A xs.length c ∧ Rd W A (sts xs) ∧ (∀ k ∈ xs, k.length ≤ maxLen) ∧ xs.length ≤ c ∧ c ≤ maxLen ∧ (A = none → c = 0) := by
  rcases open_strings Try.underlying32 Try.underlying9 (by kernel_rfl) hd with ⟨hcs, hx⟩ | ⟨a, len', cap', ss, hcs, _, hl, hm, hz, hx, hcell, hws⟩
  · injection hcs with h1
    subst h1
    exact ⟨none, 0, [], rfl, Rd.none_ _ _, (fun _ h => by cases h), Nat.le_refl _, by decide, fun _ => rfl⟩
  · injection hcs with h1
    subst h1
    simp only [if_true] at hz
    refine ⟨some a, cap', (ss.take len').map fun s => s.data.toList, ?_, ?_, ?_, ?_, hm, fun h => by cases h⟩
    · rw [List.length_map, List.length_take]
      congr 1
      omega
    · intro hpos
      rw [sts, List.length_map, List.length_map, List.length_take] at hpos
      have hspot : a.spot = none := by
        have h0 := hcell 0 (by omega)
        rw [add_zero] at h0
        exact no_spot h0
      obtain ⟨b, o, s⟩ := a
      simp only at hspot
      subst hspot
      refine ⟨b, o, rfl, fun j u hu => ?_⟩
      rw [sts, List.map_map, List.getElem?_map] at hu
      obtain ⟨z, hz1, rfl⟩ := Option.map_eq_some_iff.1 hu
      have hj := (List.getElem?_eq_some_iff.1 hz1).1
      rw [List.length_take] at hj
      have h1 := hcell j (by omega)
      rw [add_lit] at h1
      rw [h1, List.getD_eq_getElem?_getD]
      rw [List.getElem?_take, if_pos (by omega)] at hz1
      rw [hz1]
      show _ = some (Value.string (bstr z.data.toList))
      rw [bstr_eta]
      rfl
    · intro k hk
      obtain ⟨s, hs, rfl⟩ := List.mem_map.1 hk
      have := hws s (List.mem_of_mem_take hs)
      rw [size_of]; exact this
    · rw [List.length_map, List.length_take]; omega

theorem op_of_trod {H : Type} {enc : TypeId × Value → H} {W : World} {fuel : Nat} {a : Addr} {cs : List Value} {x : DataW H × List MemPlace}
    (hc : W.cells? 0 a 4 = some cs) (hd : DataW.trod enc Try.prog W 0 (fun _ => true) true fuel 98 cs = some x) :
    ∃ s : Opn, cs = opc s ∧ (∀ j v, (opc s)[j]? = some v → W.cell? (a.add j) = some v) ∧ (Part W s.val ∧ s.val.2.2.length ≤ s.val.2.1 ∧ s.val.2.1 ≤ maxLen ∧ s.key.length ≤ maxLen) ∧ (Lit.int .i64 s.n).wf = true := by
  obtain ⟨_, hlen, hat⟩ := World.cells?_some hc
  obtain ⟨ys, n, _, _, _, hyl, hf⟩ := DataW.trod_struct Try.underlying98 hd
  match cs, hlen with
  | [c0, c1, c2, c3], _ =>
    match ys, hyl with
    | [y0, y1, y2, y3], _ =>
      have h0 := hf 0 _ rfl
      have h1 := hf 1 _ rfl
      have h2 := hf 2 _ rfl
      have h3 := hf 3 _ rfl
      simp only [List.getElem?_cons_zero, List.getElem?_cons_succ] at h0 h1 h2 h3
      obtain ⟨z0, e0, _, _⟩ := DataW.trod_int Try.underlying3 h0
      obtain ⟨s1, e1, _, w1⟩ := DataW.trod_string Try.underlying9 h1
      obtain ⟨p, e2, hp, hl, hm⟩ := bytes_of_trod h2
      obtain ⟨z3, e3, _, w3⟩ := DataW.trod_int Try.underlying2 h3
      injection e0 with e0
      injection e1 with e1
      injection e3 with e3
      subst e0 e1 e2 e3
      have e : [Value.int .i64 z0, Value.string s1, sl p, Value.int .i64 z3] = opc ⟨z0, s1.data.toList, p, z3⟩ := by
        unfold opc st
        dsimp only
        rw [bstr_eta]
      refine ⟨⟨z0, s1.data.toList, p, z3⟩, e, fun j v hj => ?_, ⟨hp, hl, hm, by show s1.data.toList.length ≤ _; rw [size_of]; exact w1⟩, w3⟩
      rw [← e] at hj
      have hj4 := (List.getElem?_eq_some_iff.1 hj).1
      have := hat j (by simpa using hj4)
      rw [this]
      exact hj

theorem ops_of_trod {H : Type} {enc : TypeId × Value → H} {W : World} {fuel : Nat} {v : Value} {x : DataW H × List MemPlace}
    (hd : DataW.trod enc Try.prog W 0 (fun _ => true) true fuel 33 [v] = some x) :
    ∃ (A : Option Addr) (c : Nat) (xs : List Opn), v = .slice A xs.length c ∧ Rd W A (opsc xs) ∧ (∀ x ∈ xs, (Part W x.val ∧ x.val.2.2.length ≤ x.val.2.1 ∧ x.val.2.1 ≤ maxLen ∧ x.key.length ≤ maxLen) ∧ (Lit.int .i64 x.n).wf = true) ∧ xs.length ≤ c ∧ c ≤ maxLen ∧ (A = none → c = 0) := by
  rcases Deep.open_slice Try.underlying33 hd with ⟨hcs, hx⟩ | ⟨a, len', cap', m, n, D, Pl, hcs, _, hl, hm, hmm, hx, hel⟩
  · injection hcs with h1
    subst h1
    exact ⟨none, 0, [], rfl, Rd.none_ _ _, (fun _ h => by cases h), Nat.le_refl _, by decide, fun _ => rfl⟩
  · injection hcs with h1
    subst h1
    simp only [if_true] at hmm
    have k4 : Try.prog.cellsOf 98 = 4 := by kernel_rfl
    rw [k4] at hel
    have hps : ∀ n, n ≤ len' → ∃ xs : List Opn, xs.length = n ∧ (∀ j v, (opsc xs)[j]? = some v → W.cell? (a.add j) = some v) ∧ ∀ x ∈ xs, (Part W x.val ∧ x.val.2.2.length ≤ x.val.2.1 ∧ x.val.2.1 ≤ maxLen ∧ x.key.length ≤ maxLen) ∧ (Lit.int .i64 x.n).wf = true := by
      intro n
      induction n with
      | zero => intro _; exact ⟨[], rfl, (fun j v h => by cases h), fun _ h => by cases h⟩
      | succ n ih =>
        intro hn
        obtain ⟨xs, h1, h2, h3⟩ := ih (by omega)
        obtain ⟨cs', hc', hd'⟩ := hel n (by omega)
        obtain ⟨s, _, hs2, hs3⟩ := op_of_trod hc' hd'
        refine ⟨xs ++ [s], by rw [List.length_append, h1]; rfl, ?_, ?_⟩
        · intro j v hj
          rw [opsc_append] at hj
          have hone : opsc [s] = opc s := by simp [opsc]
          rw [hone] at hj
          by_cases h : j < n * 4
          · rw [List.getElem?_append_left (by rw [opsc_len, h1]; exact h)] at hj
            exact h2 j v hj
          · rw [List.getElem?_append_right (by rw [opsc_len, h1]; omega), opsc_len, h1] at hj
            have := hs2 _ v hj
            rw [Deep.add_add] at this
            rwa [show n * 4 + (j - n * 4) = j by omega] at this
        · intro x hx
          rcases List.mem_append.1 hx with h | h
          · exact h3 x h
          · rw [List.mem_singleton.1 h]; exact hs3
    obtain ⟨xs, hp1, hp2, hp3⟩ := hps len' (Nat.le_refl _)
    refine ⟨some a, cap', xs, by rw [hp1], ?_, hp3, by omega, hm, fun h => by cases h⟩
    intro hpos
    have hspot : a.spot = none := by
      have h0 := hp2 0 _ (List.getElem?_eq_getElem hpos)
      rw [add_zero] at h0
      exact no_spot h0
    obtain ⟨b, o, s⟩ := a
    simp only at hspot
    subst hspot
    exact ⟨b, o, rfl, fun j v hj => by rw [← add_lit]; exact hp2 j v hj⟩

theorem open_agg5 {H : Type} {enc : TypeId × Value → H} {P : Program} {w : World} {base : Nat} {spare : Nat → Bool} {held : Bool} {r : Reach} {b0 : Nat} {t : TypeId} {f0 f1 f2 f3 f4 : Field} {v : Value} {d : DataW H} {p : List MemPlace} (hs : P.underlying t = some (.struct #[f0, f1, f2, f3, f4])) (hone : Deep.oneCellFields P #[f0, f1, f2, f3, f4] = true) (hC : P.cellsOf t = 5)
    (hv : Value.okWide P w r b0 t v) (h : DataW.Trod enc P w base spare held t v d p) :
    ∃ (v0 v1 v2 v3 v4 : Value) (y0 y1 y2 y3 y4 : DataW H × List MemPlace) (n : Nat), v = .agg #[v0, v1, v2, v3, v4] ∧
      DataW.trod enc P w base spare held n f0.type [v0] = some y0 ∧ DataW.trod enc P w base spare held n f1.type [v1] = some y1 ∧ DataW.trod enc P w base spare held n f2.type [v2] = some y2 ∧ DataW.trod enc P w base spare held n f3.type [v3] = some y3 ∧ DataW.trod enc P w base spare held n f4.type [v4] = some y4 := by
  obtain ⟨cs, rfl, hsz⟩ := okWide_struct hs hv
  obtain ⟨l⟩ := cs
  match l, hsz.trans hC with
  | [c0, c1, c2, c3, c4], _ =>
    obtain ⟨fuel, hf⟩ := h
    obtain ⟨xs, n, _, hx, _, hlen, hg⟩ := DataW.trod_struct hs hf
    obtain ⟨o0, k0⟩ := Deep.hone_of hone 0 f0 rfl
    obtain ⟨o1, k1⟩ := Deep.hone_of hone 1 f1 rfl
    obtain ⟨o2, k2⟩ := Deep.hone_of hone 2 f2 rfl
    obtain ⟨o3, k3⟩ := Deep.hone_of hone 3 f3 rfl
    obtain ⟨o4, k4⟩ := Deep.hone_of hone 4 f4 rfl
    match xs, hlen with
    | [y0, y1, y2, y3, y4], _ =>
      exact ⟨c0, c1, c2, c3, c4, y0, y1, y2, y3, y4, n, rfl, by simpa [Value.cells, o0, k0] using hg 0 f0 rfl, by simpa [Value.cells, o1, k1] using hg 1 f1 rfl, by simpa [Value.cells, o2, k2] using hg 2 f2 rfl, by simpa [Value.cells, o3, k3] using hg 3 f3 rfl, by simpa [Value.cells, o4, k4] using hg 4 f4 rfl⟩

theorem open_txn {H : Type} {enc : TypeId × Value → H} {W : World} {r : Reach} {base : Nat} {v : Value} {d : DataW H} {p : List MemPlace}
    (hv : Value.okWide Try.prog W r base 35 v) (hd : DataW.Trod enc Try.prog W 0 (fun _ => true) true 35 v d p) :
    ∃ t : Tx, v = txv t ∧ TxIn W t := by
  obtain ⟨v0, v1, v2, v3, v4, y0, y1, y2, y3, y4, n, rfl, h0, h1, h2, h3, h4⟩ := open_agg5 Try.underlying35 (by kernel_rfl) (by kernel_rfl) hv hd
  obtain ⟨z0, e0, _, _⟩ := DataW.trod_int Try.underlying3 h0
  obtain ⟨A1, c1, xs1, rfl, r1, k1, l1, m1, n1⟩ := texts_of_trod h1
  obtain ⟨A2, c2, xs2, rfl, r2, k2, l2, m2, n2⟩ := texts_of_trod h2
  obtain ⟨A3, c3, xs3, rfl, r3, k3, l3, m3, n3⟩ := ops_of_trod h3
  obtain ⟨z4, e4, _, _⟩ := DataW.trod_int Try.underlying3 h4
  injection e0 with e0
  injection e4 with e4
  subst e0 e4
  exact ⟨⟨z0, A1, c1, xs1, A2, c2, xs2, A3, c3, xs3, z4⟩, rfl, ⟨r1, r2, r3, fun x hx => (k3 x hx).1, ⟨k1, k2⟩, ⟨l1, m1, n1⟩, ⟨l2, m2, n2⟩, ⟨l3, m3, n3⟩⟩⟩
end Go.Proofs.Ytdgjjkmgdjiliaa
