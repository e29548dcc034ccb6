/- Opening arguments: packets and their data. No condition. -/
import Derived.Test.YtchlafhmoncldaaOpenL
import Derived.Test.YtchlafhmoncldaaSameR
namespace Go.Proofs.Ytchlafhmoncldaa
open Go.ChangeShapes Go.WideShapes Go.ChangeAt Go.RowKit Go.WideMaps Go.WideElems

theorem bytes_of_ints (zs : List Int) (h : ∀ n ∈ zs, (Lit.int .u8 n).wf = true) : ∃ l : List UInt8, zs = l.map fun x => ((x.toNat : Nat) : Int) := by
  induction zs with
  | nil => exact ⟨[], rfl⟩
  | cons z t ih =>
    obtain ⟨l, rfl⟩ := ih fun n hn => h n (List.mem_cons_of_mem _ hn)
    have hz := h z (List.mem_cons_self ..)
    simp only [Lit.wf, Bool.and_eq_true, decide_eq_true_eq, show IntKind.min .u8 = 0 from by decide, show IntKind.max .u8 = 255 from by decide] at hz
    refine ⟨UInt8.ofNat z.toNat :: l, ?_⟩
    simp only [List.map_cons, UInt8.toNat_ofNat']
    congr 1
    omega

theorem no_spot {W : World} {a : Addr} {v : Value} (h0 : W.cell? a = some v) : a.spot = none := by
  unfold World.cell? at h0
  split at h0
  · split at h0
    · cases h0
    · rename_i h1 h2
      cases hs : a.spot with
      | none => rfl
      | some s => simp [hs] at h2
  · cases h0
theorem add_zero (a : Addr) : a.add 0 = a := by simp [Addr.add]
theorem add_lit (b o k : Nat) : Addr.add ⟨b, o, none⟩ k = ⟨b, o + k, none⟩ := by unfold Addr.add; split <;> simp_all
theorem cells_of_trod {H : Type} {enc : TypeId × Value → H} {P : Program} {W : World} {t e : TypeId} {k : IntKind} {v : Value} {fuel : Nat} {x : DataW H × List MemPlace}
    (ht : P.underlying t = some (.slice e)) (he : P.underlying e = some (.int k)) (hc : P.cellsOf e = 1)
    (hf : DataW.trod enc P W 0 (fun _ => true) true fuel t [v] = some x) :
    ∃ (A : Option Addr) (n c : Nat) (zs : List Int), v = .slice A n c ∧ zs.length = n ∧ Rd W A (zs.map (Value.int k)) ∧ (A = none → c = 0) ∧ n ≤ c ∧ c ≤ maxLen ∧ (∀ z ∈ zs, (Lit.int k z).wf = true) := by
  rcases open_ints ht he hc hf with ⟨hcs, hx⟩ | ⟨a, len', cap', zs, hcs, _, hl, hm, hz, hx, hcell, hwz⟩
  · injection hcs with h1
    subst h1
    exact ⟨none, 0, 0, [], rfl, rfl, Rd.none_ _ _, fun _ => rfl, Nat.le_refl _, by decide, (fun _ h => by cases h)⟩
  · injection hcs with h1
    subst h1
    simp only [if_true] at hz
    refine ⟨some a, len', cap', zs.take len', rfl, by rw [List.length_take]; omega, ?_, (fun h => by cases h), hl, hm, fun z hz' => hwz z (List.mem_of_mem_take hz')⟩
    intro hpos
    rw [List.length_map, List.length_take] at hpos
    have hspot : a.spot = none := by
      have h0 := hcell 0 (by omega)
      rw [show a.add 0 = a from by simp [Addr.add]] at h0
      unfold World.cell? at h0
      split at h0
      · split at h0
        · cases h0
        · rename_i h1 h2
          cases hs : a.spot with
          | none => rfl
          | some s => simp [hs] at h2
      · cases h0
    obtain ⟨b, o, s⟩ := a
    simp only at hspot
    subst hspot
    refine ⟨b, o, rfl, fun j u hu => ?_⟩
    rw [List.getElem?_map] at hu
    obtain ⟨z, hz1, rfl⟩ := Option.map_eq_some_iff.1 hu
    have hj := (List.getElem?_eq_some_iff.1 hz1).1
    rw [List.length_take] at hj
    have := hcell j (by omega)
    rw [show (⟨b, o, none⟩ : Addr).add j = ⟨b, o + j, none⟩ from by unfold Addr.add; split <;> simp_all] at this
    rw [this, List.getD_eq_getElem?_getD]
    rw [List.getElem?_take, if_pos (by omega)] at hz1
    rw [hz1]
    rfl

theorem bytes_of_trod {H : Type} {enc : TypeId × Value → H} {W : World} {v : Value} {fuel : Nat} {x : DataW H × List MemPlace}
    (hf : DataW.trod enc Try.prog W 0 (fun _ => true) true fuel 30 [v] = some x) :
    ∃ (A : Option Addr) (c : Nat) (l : List UInt8), v = .slice A l.length c ∧ Rd W A (cb l) ∧ (A = none → c = 0) ∧ l.length ≤ c ∧ c ≤ maxLen := by
  obtain ⟨A, n, c, zs, rfl, rfl, hr, hA, hn, hm, hw⟩ := cells_of_trod Try.underlying30 Try.underlying5 (by kernel_rfl) hf
  obtain ⟨l, rfl⟩ := bytes_of_ints zs hw
  refine ⟨A, c, l, by rw [List.length_map], ?_, hA, by simpa using hn, hm⟩
  rw [List.map_map] at hr
  exact hr
/-- a packet as an argument. -/
structure PkIn (W : World) (x : Pk) : Prop where
  ep : x.ep < 2 ^ 64
  pe : x.pe < 2 ^ 64
  sq : x.sq < 2 ^ 64
  ak : x.ak < 2 ^ 64
  rd : Rd W x.d.1 (cb x.d.2.2)
  nil : x.d.1 = none → x.d.2.1 = 0
  len : x.d.2.2.length ≤ maxLen
theorem pk_of_cells {H : Type} {enc : TypeId × Value → H} {W : World} {fuel : Nat} {cs : List Value} {x : DataW H × List MemPlace} (hl : cs.length = 5)
    (hd : DataW.trod enc Try.prog W 0 (fun _ => true) true fuel 32 cs = some x) : ∃ p : Pk, cs = pkc p ∧ PkIn W p := by
  obtain ⟨ys, n, _, _, _, hyl, hf⟩ := DataW.trod_struct Try.underlying32 hd
  match cs, hl with
  | [v0, v1, v2, v3, v4], _ =>
    match ys, hyl with
    | [y0, y1, y2, y3, y4], _ =>
      have h0 := hf 0 _ rfl
      have h1 := hf 1 _ rfl
      have h2 := hf 2 _ rfl
      have h3 := hf 3 _ rfl
      have h4 := hf 4 _ rfl
      simp only [List.getElem?_cons_zero, List.getElem?_cons_succ] at h0 h1 h2 h3 h4
      obtain ⟨q0, e0, _, w0⟩ := DataW.trod_int Try.underlying22 h0
      obtain ⟨q1, e1, _, w1⟩ := DataW.trod_int Try.underlying22 h1
      obtain ⟨q2, e2, _, w2⟩ := DataW.trod_int Try.underlying22 h2
      obtain ⟨q3, e3, _, w3⟩ := DataW.trod_int Try.underlying22 h3
      obtain ⟨A, c, l, rfl, hr, hA, hc, hm⟩ := bytes_of_trod h4
      obtain ⟨m0, rfl, hm0⟩ := nat_u64 w0
      obtain ⟨m1, rfl, hm1⟩ := nat_u64 w1
      obtain ⟨m2, rfl, hm2⟩ := nat_u64 w2
      obtain ⟨m3, rfl, hm3⟩ := nat_u64 w3
      injection e0 with e0
      injection e1 with e1
      injection e2 with e2
      injection e3 with e3
      subst e0 e1 e2 e3
      exact ⟨⟨m0, m1, m2, m3, A, c, l⟩, rfl, hm0, hm1, hm2, hm3, hr, hA, Nat.le_trans hc hm⟩

/-- a slice of structs of k cells, opened by what one of them is. -/
theorem open_cat {H : Type} {enc : TypeId × Value → H} {W : World} {r : Reach} {base : Nat} {v : Value} {d : DataW H} {p : List MemPlace} {T E : TypeId} {k : Nat} {α : Type} (f : α → List Value) (Q : α → Prop)
    (hf : ∀ x, (f x).length = k) (_hk0 : 0 < k) (hT : Try.prog.underlying T = some (.slice E)) (hk : Try.prog.cellsOf E = k)
    (one : ∀ {fuel : Nat} {cs : List Value} {x : DataW H × List MemPlace}, cs.length = k → DataW.trod enc Try.prog W 0 (fun _ => true) true fuel E cs = some x → ∃ a, cs = f a ∧ Q a)
    (hv : Value.okWide Try.prog W r base T v) (hd0 : DataW.Trod enc Try.prog W 0 (fun _ => true) true T v d p) :
    ∃ (A : Option Addr) (c : Nat) (xs : List α), v = .slice A xs.length c ∧ Rd W A (xs.flatMap f) ∧ (∀ x ∈ xs, Q x) ∧ xs.length ≤ c ∧ c ≤ maxLen := by
  obtain ⟨a0, len, cap, rfl⟩ := okWide_slice hT hv
  obtain ⟨fuel, hd⟩ := hd0
  rcases Deep.open_slice hT hd with ⟨hcs, hx⟩ | ⟨a, len', cap', m, n, D, Pl, hcs, _, hl, hm, hmm, hx, hel⟩
  · have hcs' : Value.slice a0 len cap = .slice none 0 0 := by simpa [Value.cells] using hcs
    injection hcs' with h1 h2 h3
    subst h1 h2 h3
    exact ⟨none, 0, [], rfl, Rd.none_ _ _, (fun _ h => by cases h), Nat.le_refl _, by decide⟩
  · have hcs' : Value.slice a0 len cap = .slice (some a) len' cap' := by simpa [Value.cells] using hcs
    injection hcs' with h1 h2 h3
    subst h1 h2 h3
    simp only [if_true] at hmm
    rw [hk] at hel
    have hps : ∀ n, n ≤ len → ∃ xs : List α, xs.length = n ∧ (∀ j v, (xs.flatMap f)[j]? = some v → W.cell? (a.add j) = some v) ∧ ∀ x ∈ xs, Q x := by
      intro n
      induction n with
      | zero => intro _; exact ⟨[], rfl, (fun j v h => by cases h), fun _ h => by cases h⟩
      | succ n ih =>
        intro hn
        obtain ⟨xs, h1, h2, h3⟩ := ih (by omega)
        obtain ⟨cs', hc', hd'⟩ := hel n (by omega)
        obtain ⟨_, hlen, hat⟩ := World.cells?_some hc'
        obtain ⟨s, e, hs⟩ := one hlen hd'
        refine ⟨xs ++ [s], by rw [List.length_append, h1]; rfl, ?_, ?_⟩
        · intro j v hj
          rw [List.flatMap_append] at hj
          have hone : [s].flatMap f = f s := by simp
          rw [hone] at hj
          have hxl : (xs.flatMap f).length = n * k := by rw [cat_len f k hf, h1]
          by_cases h : j < n * k
          · rw [List.getElem?_append_left (by rw [hxl]; exact h)] at hj
            exact h2 j v hj
          · rw [List.getElem?_append_right (by rw [hxl]; omega), hxl, ← e] at hj
            have hjk := (List.getElem?_eq_some_iff.1 hj).1
            have h4 := hat (j - n * k) (by omega)
            rw [hj, Deep.add_add, show n * k + (j - n * k) = j by omega] at h4
            exact h4
        · intro x hx
          rcases List.mem_append.1 hx with h | h
          · exact h3 x h
          · rw [List.mem_singleton.1 h]; exact hs
    obtain ⟨xs, hp1, hp2, hp3⟩ := hps len (Nat.le_refl _)
    refine ⟨some a, cap, xs, by rw [hp1], ?_, hp3, by omega, hm⟩
    intro hpos
    have hspot : a.spot = none := by
      have h0 := hp2 0 _ (List.getElem?_eq_getElem hpos)
      rw [add_zero] at h0
      exact no_spot h0
    obtain ⟨b, o, s⟩ := a
    simp only at hspot
    subst hspot
    exact ⟨b, o, rfl, fun j v hj => by rw [← add_lit]; exact hp2 j v hj⟩
theorem open_pks {H : Type} {enc : TypeId × Value → H} {W : World} {r : Reach} {base : Nat} {v : Value} {d : DataW H} {p : List MemPlace}
    (hv : Value.okWide Try.prog W r base 39 v) (hd : DataW.Trod enc Try.prog W 0 (fun _ => true) true 39 v d p) :
    ∃ (A : Option Addr) (c : Nat) (xs : List Pk), v = .slice A xs.length c ∧ Rd W A (pksc xs) ∧ (∀ x ∈ xs, PkIn W x) ∧ xs.length ≤ c ∧ c ≤ maxLen :=
  open_cat pkc (PkIn W) pkc_len (by omega) Try.underlying39 (by kernel_rfl) (fun hl h => pk_of_cells hl h) hv hd
end Go.Proofs.Ytchlafhmoncldaa
