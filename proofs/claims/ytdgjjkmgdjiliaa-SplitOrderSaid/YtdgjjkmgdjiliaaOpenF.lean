/- Opening arguments that are lists of orders, or of items. No condition. -/
import Derived.Test.YtdgjjkmgdjiliaaOpenT
import Derived.Test.YtdgjjkmgdjiliaaOrd
import Derived.Test.YtdgjjkmgdjiliaaFlt3
namespace Go.Proofs.Ytdgjjkmgdjiliaa
open Go.ChangeShapes Go.WideShapes Go.ChangeAt Go.RowKit Go.WideMaps Go.WideElems
set_option maxRecDepth 100000

def nB (n : Int) : Prop := -9223372036854775808 ≤ n ∧ n ≤ 9223372036854775807
theorem i64_wf {z : Int} (h : (Lit.int .i64 z).wf = true) : nB z := by
  simp only [Lit.wf, Bool.and_eq_true, decide_eq_true_eq, show IntKind.min .i64 = -9223372036854775808 from by decide, show IntKind.max .i64 = 9223372036854775807 from by decide] at h
  exact h
theorem txn_of_trod {H : Type} {enc : TypeId × Value → H} {W : World} {fuel : Nat} {c0 c1 c2 c3 c4 : Value} {x : DataW H × List MemPlace}
    (hd : DataW.trod enc Try.prog W 0 (fun _ => true) true fuel 35 [c0, c1, c2, c3, c4] = some x) :
    ∃ t : Tx, [c0, c1, c2, c3, c4] = (txa t).toList ∧ TxIn W t ∧ ∀ x ∈ t.ops, nB x.n := by
  obtain ⟨ys, n, _, _, _, hyl, hf⟩ := DataW.trod_struct Try.underlying35 hd
  match ys, hyl with
  | [y0, y1, y2, y3, y4], _ =>
    have h0 := hf 0 _ rfl
    have h1 := hf 1 _ rfl
    have h2 := hf 2 _ rfl
    have h3 := hf 3 _ rfl
    have h4 := hf 4 _ rfl
    simp only [List.getElem?_cons_zero, List.getElem?_cons_succ] at h0 h1 h2 h3 h4
    obtain ⟨z0, e0, _, _⟩ := DataW.trod_int Try.underlying3 h0
    obtain ⟨A1, d1, xs1, e1, r1, k1, l1, m1, n1⟩ := texts_of_trod h1
    obtain ⟨A2, d2, xs2, e2, r2, k2, l2, m2, n2⟩ := texts_of_trod h2
    obtain ⟨A3, d3, xs3, e3, r3, k3, l3, m3, n3⟩ := ops_of_trod h3
    obtain ⟨z4, e4, _, _⟩ := DataW.trod_int Try.underlying3 h4
    injection e0 with e0
    injection e4 with e4
    subst e0 e1 e2 e3 e4
    exact ⟨⟨z0, A1, d1, xs1, A2, d2, xs2, A3, d3, xs3, z4⟩, rfl, ⟨r1, r2, r3, fun x hx => (k3 x hx).1, ⟨k1, k2⟩, ⟨l1, m1, n1⟩, ⟨l2, m2, n2⟩, ⟨l3, m3, n3⟩⟩, fun x hx => i64_wf (k3 x hx).2⟩
theorem u64_wf {z : Int} (h : (Lit.int .u64 z).wf = true) : ∃ n : Nat, z = (n : Int) ∧ n < two64 := by
  simp only [Lit.wf, Bool.and_eq_true, decide_eq_true_eq, show IntKind.min .u64 = 0 from by decide, show IntKind.max .u64 = 18446744073709551615 from by decide] at h
  refine ⟨z.toNat, by omega, ?_⟩
  unfold two64
  omega
theorem mark_of_trod {H : Type} {enc : TypeId × Value → H} {W : World} {fuel : Nat} {a : Addr} {cs : List Value} {x : DataW H × List MemPlace}
    (hc : W.cells? 0 a 3 = some cs) (hd : DataW.trod enc Try.prog W 0 (fun _ => true) true fuel 63 cs = some x) :
    ∃ s : Mk, cs = mkc s ∧ (∀ j v, (mkc s)[j]? = some v → W.cell? (a.add j) = some v) ∧ s.key.length ≤ maxLen ∧ s.count < two64 := by
  obtain ⟨_, hlen, hat⟩ := World.cells?_some hc
  obtain ⟨ys, n, _, _, _, hyl, hf⟩ := DataW.trod_struct Try.underlying63 hd
  match cs, hlen with
  | [c0, c1, c2], _ =>
    match ys, hyl with
    | [y0, y1, y2], _ =>
      have h0 := hf 0 _ rfl
      have h1 := hf 1 _ rfl
      have h2 := hf 2 _ rfl
      simp only [List.getElem?_cons_zero, List.getElem?_cons_succ] at h0 h1 h2
      obtain ⟨s0, e0, _, w0⟩ := DataW.trod_string Try.underlying9 h0
      obtain ⟨z1, e1, _, _⟩ := DataW.trod_int Try.underlying3 h1
      obtain ⟨z2, e2, _, w2⟩ := DataW.trod_int Try.underlying27 h2
      obtain ⟨n2, rfl, hn2⟩ := u64_wf w2
      injection e0 with e0
      injection e1 with e1
      injection e2 with e2
      subst e0 e1 e2
      have e : [Value.string s0, Value.int .i64 z1, Value.int .u64 (n2 : Int)] = mkc ⟨s0.data.toList, z1, n2⟩ := by
        unfold mkc st
        dsimp only
        rw [bstr_eta]
      refine ⟨⟨s0.data.toList, z1, n2⟩, e, fun j v hj => ?_, by show s0.data.toList.length ≤ _; rw [size_of]; exact w0, hn2⟩
      rw [← e] at hj
      have hj4 := (List.getElem?_eq_some_iff.1 hj).1
      have := hat j (by simpa using hj4)
      rw [this]
      exact hj

theorem marks_of_trod {H : Type} {enc : TypeId × Value → H} {W : World} {fuel : Nat} {v : Value} {x : DataW H × List MemPlace}
    (hd : DataW.trod enc Try.prog W 0 (fun _ => true) true fuel 36 [v] = some x) :
    ∃ (A : Option Addr) (c : Nat) (xs : List Mk), v = .slice A xs.length c ∧ Rd W A (mksc xs) ∧ (∀ x ∈ xs, x.key.length ≤ maxLen ∧ x.count < two64) ∧ xs.length ≤ c ∧ c ≤ maxLen ∧ (A = none → c = 0) := by
  rcases Deep.open_slice Try.underlying36 hd with ⟨hcs, hx⟩ | ⟨a, len', cap', m, n, D, Pl, hcs, _, hl, hm, hmm, hx, hel⟩
  · injection hcs with h1
    subst h1
    exact ⟨none, 0, [], rfl, Rd.none_ _ _, (fun _ h => by cases h), Nat.le_refl _, by decide, fun _ => rfl⟩
  · injection hcs with h1
    subst h1
    simp only [if_true] at hmm
    have k4 : Try.prog.cellsOf 63 = 3 := by kernel_rfl
    rw [k4] at hel
    have hps : ∀ n, n ≤ len' → ∃ xs : List Mk, xs.length = n ∧ (∀ j v, (mksc xs)[j]? = some v → W.cell? (a.add j) = some v) ∧ ∀ x ∈ xs, x.key.length ≤ maxLen ∧ x.count < two64 := by
      intro n
      induction n with
      | zero => intro _; exact ⟨[], rfl, (fun j v h => by cases h), fun _ h => by cases h⟩
      | succ n ih =>
        intro hn
        obtain ⟨xs, h1, h2, h3⟩ := ih (by omega)
        obtain ⟨cs', hc', hd'⟩ := hel n (by omega)
        obtain ⟨s, _, hs2, hs3⟩ := mark_of_trod hc' hd'
        refine ⟨xs ++ [s], by rw [List.length_append, h1]; rfl, ?_, ?_⟩
        · intro j v hj
          rw [mksc_append] at hj
          have hone : mksc [s] = mkc s := by simp [mksc]
          rw [hone] at hj
          by_cases h : j < n * 3
          · rw [List.getElem?_append_left (by rw [mksc_len, h1]; exact h)] at hj
            exact h2 j v hj
          · rw [List.getElem?_append_right (by rw [mksc_len, h1]; omega), mksc_len, h1] at hj
            have := hs2 _ v hj
            rw [Deep.add_add] at this
            rwa [show n * 3 + (j - n * 3) = j by omega] at this
        · intro x hx
          rcases List.mem_append.1 hx with h | h
          · exact h3 x h
          · rw [List.mem_singleton.1 h]; exact hs3
    obtain ⟨xs, hp1, hp2, hp3⟩ := hps len' (Nat.le_refl _)
    refine ⟨some a, cap', xs, by rw [hp1], ?_, hp3, by omega, hm, fun h => by cases h⟩
    intro hpos
    have hspot : a.spot = none := by
      have h0 := hp2 0 _ (List.getElem?_eq_getElem hpos)
      rw [add_zero] at h0
      exact no_spot h0
    obtain ⟨b, o, s⟩ := a
    simp only at hspot
    subst hspot
    exact ⟨b, o, rfl, fun j v hj => by rw [← add_lit]; exact hp2 j v hj⟩

theorem order_of_cells {H : Type} {enc : TypeId × Value → H} {W : World} {fuel : Nat} {cs : List Value} {x : DataW H × List MemPlace} (hl : cs.length = 10)
    (hd : DataW.trod enc Try.prog W 0 (fun _ => true) true fuel 38 cs = some x) : ∃ o : Od, cs = (oda o).toList ∧ OdIn W o ∧ TgOk (tgOf o) := by
  obtain ⟨ys, n, _, _, _, hyl, hf⟩ := DataW.trod_struct Try.underlying38 hd
  match cs, hl with
  | [v0, v1, v2, v3, v4, v5, v6, v7, v8, v9], _ =>
    match ys, hyl with
    | [y0, y1, y2], _ =>
      have h0 := hf 0 _ rfl
      have h1 := hf 1 _ rfl
      have h2 := hf 2 _ rfl
      simp only [List.getElem?_cons_zero, List.getElem?_cons_succ] at h0 h1 h2
      obtain ⟨t, ht, hti, _⟩ := txn_of_trod h1
      obtain ⟨A, c, xs, rfl, hr, hk, hc, hm, hn⟩ := marks_of_trod h2
      obtain ⟨zs, n2, _, _, _, hzl, hg⟩ := DataW.trod_struct Try.underlying31 h0
      match zs, hzl with
      | [z0, z1], _ =>
        have g0 := hg 0 _ rfl
        have g1 := hg 1 _ rfl
        simp only [List.getElem?_cons_zero, List.getElem?_cons_succ] at g0 g1
        obtain ⟨us, n3, _, _, _, hul, hi⟩ := DataW.trod_struct Try.underlying29 g0
        match us, hul with
        | [u0, u1, u2], _ =>
          have i0 := hi 0 _ rfl
          have i1 := hi 1 _ rfl
          have i2 := hi 2 _ rfl
          simp only [List.getElem?_cons_zero, List.getElem?_cons_succ] at i0 i1 i2
          obtain ⟨q0, e0, _, w0⟩ := DataW.trod_int Try.underlying3 i0
          obtain ⟨q1, e1, _, w1⟩ := DataW.trod_int Try.underlying27 i1
          obtain ⟨q2, e2, _, w2⟩ := DataW.trod_int Try.underlying27 i2
          obtain ⟨q3, e3, _, w3⟩ := DataW.trod_int Try.underlying3 g1
          obtain ⟨m1, rfl, hm1⟩ := u64_wf w1
          obtain ⟨m2, rfl, hm2⟩ := u64_wf w2
          injection e0 with e0
          injection e1 with e1
          injection e2 with e2
          injection e3 with e3
          unfold txa at ht
          simp only [List.cons.injEq, and_true] at ht
          obtain ⟨t0, t1, t2, t3, t4⟩ := ht
          subst e0 e1 e2 e3 t0 t1 t2 t3 t4
          exact ⟨⟨q0, m1, m2, q3, t, A, c, xs⟩, rfl, ⟨hti, hr, ⟨hc, hm, hn⟩, fun m hmm => (hk m hmm).1, hm1, hm2, fun m hmm => (hk m hmm).2⟩, ⟨w0, hm1, hm2, w3⟩⟩


/-- a list of orders as cells. -/
def odc (o : Od) : List Value := (oda o).toList
def odsc (xs : List Od) : List Value := xs.flatMap odc
theorem odc_len (o : Od) : (odc o).length = 10 := rfl
theorem odsc_len (xs : List Od) : (odsc xs).length = xs.length * 10 := cat_len odc 10 odc_len xs
def imc (i : Im) : List Value := (ima i).toList
def imsc (xs : List Im) : List Value := xs.flatMap imc
theorem imc_len (i : Im) : (imc i).length = 12 := rfl
theorem imsc_len (xs : List Im) : (imsc xs).length = xs.length * 12 := cat_len imc 12 imc_len xs
theorem item_of_cells {H : Type} {enc : TypeId × Value → H} {W : World} {fuel : Nat} {cs : List Value} {x : DataW H × List MemPlace} (hl : cs.length = 12)
    (hd : DataW.trod enc Try.prog W 0 (fun _ => true) true fuel 40 cs = some x) : ∃ i : Im, cs = imc i ∧ OdIn W i.o ∧ TgOk (tgOf i.o) := by
  match cs, hl with
  | [v0, v1, v2, v3, v4, v5, v6, v7, v8, v9, v10, v11], _ =>
    obtain ⟨ys, n, _, _, _, hyl, hg⟩ := DataW.trod_struct Try.underlying40 hd
    match ys, hyl with
    | [y0, y1, y2], _ =>
      have h0 := hg 0 _ rfl
      have h1 := hg 1 _ rfl
      have h2 := hg 2 _ rfl
      simp only [List.getElem?_cons_zero, List.getElem?_cons_succ] at h0 h1 h2
      obtain ⟨q0, e0, _, _⟩ := DataW.trod_int Try.underlying3 h0
      obtain ⟨q1, e1, _, _⟩ := DataW.trod_int Try.underlying3 h1
      obtain ⟨o, ho, hi, hn⟩ := order_of_cells (cs := [v2, v3, v4, v5, v6, v7, v8, v9, v10, v11]) rfl h2
      injection e0 with e0
      injection e1 with e1
      unfold oda at ho
      simp only [List.cons.injEq, and_true] at ho
      obtain ⟨t0, t1, t2, t3, t4, t5, t6, t7, t8, t9⟩ := ho
      subst e0 e1 t0 t1 t2 t3 t4 t5 t6 t7 t8 t9
      exact ⟨⟨q0, q1, o⟩, rfl, hi, hn⟩
/-- a slice of structs of k cells, opened by what one of them is. -/
theorem open_cat {H : Type} {enc : TypeId × Value → H} {W : World} {r : Reach} {base : Nat} {v : Value} {d : DataW H} {p : List MemPlace} {T E : TypeId} {k : Nat} {α : Type} (f : α → List Value) (Q : α → Prop)
    (hf : ∀ x, (f x).length = k) (_hk0 : 0 < k) (hT : Try.prog.underlying T = some (.slice E)) (hk : Try.prog.cellsOf E = k)
    (one : ∀ {fuel : Nat} {cs : List Value} {x : DataW H × List MemPlace}, cs.length = k → DataW.trod enc Try.prog W 0 (fun _ => true) true fuel E cs = some x → ∃ a, cs = f a ∧ Q a)
    (hv : Value.okWide Try.prog W r base T v) (hd0 : DataW.Trod enc Try.prog W 0 (fun _ => true) true T v d p) :
    ∃ (A : Option Addr) (c : Nat) (xs : List α), v = .slice A xs.length c ∧ Rd W A (xs.flatMap f) ∧ (∀ x ∈ xs, Q x) ∧ xs.length ≤ c ∧ c ≤ maxLen := by
  obtain ⟨a0, len, cap, rfl⟩ := okWide_slice hT hv
  obtain ⟨fuel, hd⟩ := hd0
  rcases Deep.open_slice hT hd with ⟨hcs, hx⟩ | ⟨a, len', cap', m, n, D, Pl, hcs, _, hl, hm, hmm, hx, hel⟩
  · have hcs' : Value.slice a0 len cap = .slice none 0 0 := by simpa [Value.cells] using hcs
    injection hcs' with h1 h2 h3
    subst h1 h2 h3
    exact ⟨none, 0, [], rfl, Rd.none_ _ _, (fun _ h => by cases h), Nat.le_refl _, by decide⟩
  · have hcs' : Value.slice a0 len cap = .slice (some a) len' cap' := by simpa [Value.cells] using hcs
    injection hcs' with h1 h2 h3
    subst h1 h2 h3
    simp only [if_true] at hmm
    rw [hk] at hel
    have hps : ∀ n, n ≤ len → ∃ xs : List α, xs.length = n ∧ (∀ j v, (xs.flatMap f)[j]? = some v → W.cell? (a.add j) = some v) ∧ ∀ x ∈ xs, Q x := by
      intro n
      induction n with
      | zero => intro _; exact ⟨[], rfl, (fun j v h => by cases h), fun _ h => by cases h⟩
      | succ n ih =>
        intro hn
        obtain ⟨xs, h1, h2, h3⟩ := ih (by omega)
        obtain ⟨cs', hc', hd'⟩ := hel n (by omega)
        obtain ⟨_, hlen, hat⟩ := World.cells?_some hc'
        obtain ⟨s, e, hs⟩ := one hlen hd'
        refine ⟨xs ++ [s], by rw [List.length_append, h1]; rfl, ?_, ?_⟩
        · intro j v hj
          rw [List.flatMap_append] at hj
          have hone : [s].flatMap f = f s := by simp
          rw [hone] at hj
          have hxl : (xs.flatMap f).length = n * k := by rw [cat_len f k hf, h1]
          by_cases h : j < n * k
          · rw [List.getElem?_append_left (by rw [hxl]; exact h)] at hj
            exact h2 j v hj
          · rw [List.getElem?_append_right (by rw [hxl]; omega), hxl, ← e] at hj
            have hjk := (List.getElem?_eq_some_iff.1 hj).1
            have h4 := hat (j - n * k) (by omega)
            rw [hj, Deep.add_add, show n * k + (j - n * k) = j by omega] at h4
            exact h4
        · intro x hx
          rcases List.mem_append.1 hx with h | h
          · exact h3 x h
          · rw [List.mem_singleton.1 h]; exact hs
    obtain ⟨xs, hp1, hp2, hp3⟩ := hps len (Nat.le_refl _)
    refine ⟨some a, cap, xs, by rw [hp1], ?_, hp3, by omega, hm⟩
    intro hpos
    have hspot : a.spot = none := by
      have h0 := hp2 0 _ (List.getElem?_eq_getElem hpos)
      rw [add_zero] at h0
      exact no_spot h0
    obtain ⟨b, o, s⟩ := a
    simp only at hspot
    subst hspot
    exact ⟨b, o, rfl, fun j v hj => by rw [← add_lit]; exact hp2 j v hj⟩
theorem open_ords {H : Type} {enc : TypeId × Value → H} {W : World} {r : Reach} {base : Nat} {v : Value} {d : DataW H} {p : List MemPlace}
    (hv : Value.okWide Try.prog W r base 47 v) (hd : DataW.Trod enc Try.prog W 0 (fun _ => true) true 47 v d p) :
    ∃ (A : Option Addr) (c : Nat) (xs : List Od), v = .slice A xs.length c ∧ Rd W A (odsc xs) ∧ (∀ o ∈ xs, OdIn W o ∧ TgOk (tgOf o)) ∧ xs.length ≤ c ∧ c ≤ maxLen :=
  open_cat odc (fun o => OdIn W o ∧ TgOk (tgOf o)) odc_len (by omega) Try.underlying47 (by kernel_rfl) (fun hl h => order_of_cells hl h) hv hd
theorem open_items {H : Type} {enc : TypeId × Value → H} {W : World} {r : Reach} {base : Nat} {v : Value} {d : DataW H} {p : List MemPlace}
    (hv : Value.okWide Try.prog W r base 22 v) (hd : DataW.Trod enc Try.prog W 0 (fun _ => true) true 22 v d p) :
    ∃ (A : Option Addr) (c : Nat) (xs : List Im), v = .slice A xs.length c ∧ Rd W A (imsc xs) ∧ (∀ i ∈ xs, OdIn W i.o ∧ TgOk (tgOf i.o)) ∧ xs.length ≤ c ∧ c ≤ maxLen :=
  open_cat imc (fun i => OdIn W i.o ∧ TgOk (tgOf i.o)) imc_len (by omega) Try.underlying22 (by kernel_rfl) (fun hl h => item_of_cells hl h) hv hd
end Go.Proofs.Ytdgjjkmgdjiliaa
