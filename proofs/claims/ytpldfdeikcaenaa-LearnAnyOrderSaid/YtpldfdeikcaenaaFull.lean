/- Append onto a full slice; a slice's cells while a map is written; an int's lowest bits. No condition but lengths. -/
import Derived.Test.YtpldfdeikcaenaaOps
import Derived.ArgAppend
import Derived.Deep.AppendSrc
import Derived.Deep.Upon
import Derived.IntWalk
namespace Go.Proofs.Ytpldfdeikcaenaa
open Go.RowKit Go.Maps

theorem low_bits (k : Int) (m : Nat) (hm : m ≤ 65535) : ∃ q : Nat, bits .and .i64 k (m : Int) = (q : Int) ∧ q ≤ m := by
  have e : (BitVec.ofInt 64 (m : Int)).toNat = m := by rw [BitVec.ofInt_natCast, BitVec.toNat_ofNat]; omega
  have hq : (BitVec.ofInt 64 k &&& BitVec.ofInt 64 (m : Int)).toNat ≤ m := by
    rw [BitVec.toNat_and]
    have := Nat.and_le_right (n := (BitVec.ofInt 64 k).toNat) (m := (BitVec.ofInt 64 (m : Int)).toNat)
    omega
  refine ⟨(BitVec.ofInt 64 k &&& BitVec.ofInt 64 (m : Int)).toNat, ?_, hq⟩
  show IntKind.i64.wrap (((BitVec.ofInt 64 k &&& BitVec.ofInt 64 (m : Int)).toNat : Nat) : Int) = _
  generalize (BitVec.ofInt 64 k &&& BitVec.ofInt 64 (m : Int)).toNat = q at *
  exact IntWalk.i64_in _ (by omega)
theorem km_cell {P : Program} {k : TypeId} {w : World} {b s : Nat} {f : Int → Option Value} (h : Km P k w b s f) (o : Nat) : w.cell? ⟨b, o, none⟩ = none := by
  obtain ⟨D, ⟨es, clock, hb, _⟩, _⟩ := h
  simp [World.cell?, hb]
theorem Rd.km {P : Program} {k : TypeId} {w w' : World} {b s : Nat} {f : Int → Option Value} {A : Option Addr} {xs : List Value} (h : Rd w A xs) (hk : Km P k w b s f) (hf : Fr (fun j => j = b) w w') : Rd w' A xs :=
  h.fr' hf fun hx j hj e => by
    obtain ⟨b', o, rfl, hc⟩ := h hx
    obtain ⟨ad, e1, e2⟩ := hj
    injection e1 with e1
    subst e1
    have := hc 0 _ (List.getElem?_eq_getElem hx)
    have e3 : b' = b := e2.trans e
    rw [e3, km_cell hk] at this
    cases this
theorem own_blk {w : World} {base : Nat} {e : TypeId} {size n : Nat} {v : Value} {xs : List Value} (h : w.ownsRow base e size v n xs) {k : Nat} (hk : v.ownBlock = some k) : base ≤ k ∧ k < w.heap.size := h.lt k hk
theorem own_cap {w : World} {base : Nat} {e : TypeId} {size n c : Nat} {A : Option Addr} {xs : List Value} (h : w.ownsRow base e size (.slice A n c) n xs) : c ≤ maxLen := by
  rcases h.2 with ⟨h1, _⟩ | ⟨g, cap, cur, h1, _, _, _, hcm, _⟩
  · injection h1 with _ _ h1
    subst h1
    exact Nat.zero_le _
  · injection h1 with _ _ h1
    subst h1
    exact hcm
/-- a slice behind an append onto a full one. -/
structure GotF (w w' : World) (a0 : Addr) (n : Nat) (xs : List Value) (A : Option Addr) (c : Nat) : Prop where
  lies : ∀ k, ablk A k → k = a0.block ∨ w.heap.size ≤ k
  rd : Rd w' A xs
  le : n ≤ c
  max : c ≤ maxLen
  fr : Fr NoBlk w w'
theorem run_appF {P : Program} (w : World) (t ty e : TypeId) (i : TypeInfo) (z : Value) (bytes : Nat) (ht : P.underlying t = some (.slice e)) (hi : P.info? e = some i) (hz : i.zero = some z)
    (hsize : i.size = 1) (hby : i.bytes = bytes) (hzs : z.cells.size = 1)
    (a0 : Addr) (n : Nat) (olds : List Value) (hlo : olds.length = n) (ho : Rd w (some a0) olds) (A : Option Addr) (c m : Nat) (news : List Value) (hm : news.length = m) (hr : Rd w A news) (h1 : ∀ u ∈ news, u.oneCell' = true)
    (hA : A = none → c = 0) (h63 : n + m ≤ maxLen) (hbytes : (n + m) * bytes ≤ 140737488355328) :
    ∃ A' c' w', (Builtin.append_ #[t, t] ty #[.slice (some a0) n n, .slice A m c]).run P w = .ok (.slice A' (n + m) c') w' ∧ GotF w w' a0 (n + m) (olds ++ news) A' c' := by
  have hcells : ∀ (b : Addr) (xs : List Value), Rd w (some b) xs → ∀ j u, xs[j]? = some u → w.cell? (b.add j) = some u := fun b xs hb j u hu => by
    obtain ⟨b', o, e', hc⟩ := hb (by have := (List.getElem?_eq_some_iff.1 hu).1; omega)
    injection e' with e'
    subst e'
    have := hc j u hu
    unfold Addr.add
    split
    · subst j; simpa using this
    · exact this
  by_cases h0 : m = 0
  · subst h0
    have hn : news = [] := List.eq_nil_of_length_eq_zero hm
    subst hn
    have hsrc : Src P i.size t (.slice A 0 c) 0 [] w := by
      rw [hsize]
      rcases A with _ | ad
      · exact Src.ofNil w ht c
      · exact Src.ofSlice w ht ad 0 c [] rfl (fun j u hu => by cases hu) (fun u hu => by cases hu)
    refine ⟨some a0, n, w, run_append_nothing w t t ty e i ht hi (some a0) n n (Nat.le_refl _) _ hsrc, ?_⟩
    rw [List.append_nil]
    exact ⟨(fun k ⟨b, hb, hk⟩ => by injection hb with hb; subst hb; exact .inl hk.symm), ho, Nat.le_refl _, by omega, Fr.refl _ _⟩
  · obtain ⟨b, o, rfl, _⟩ := hr (by omega)
    obtain ⟨v', w', hrun, hown, hgr⟩ := run_append_arg_grows (P := P) w t ty e i z 1 bytes ht hi hz hsize hby hzs (by decide) a0 n n olds (by omega) (hcells _ _ ho) ⟨b, o, none⟩ m c news (by omega) (hcells _ _ hr) (by omega) h63 hbytes
    obtain ⟨A', c', rfl, hle, _⟩ := own_form hown
    exact ⟨A', c', w', hrun, (fun k ⟨b, hb, hk⟩ => .inr (own_blk hown (by rw [hb, ← hk]; rfl)).1), Rd.of_own hown, hle, own_cap hown, (Fr.ofGrown hgr).mono (fun _ _ h => by cases h)⟩
theorem step_appF {P : Program} {w : World} {ops : Array Oper} {o : Oper} {a : Act} {K : Act → World → Prop} {Q : Exit → Act → World → Prop} {E : Prop} (hgd : o.guard = none) (s x : Operand) (t : TypeId)
    (ho : o.op = .call { callee := .builtin .append, args := #[s, x], argTypes := #[t, t] })
    (e : TypeId) (i : TypeInfo) (z : Value) (bytes : Nat) (ht : P.underlying t = some (.slice e)) (hi : P.info? e = some i) (hz : i.zero = some z)
    (hsize : i.size = 1) (hby : i.bytes = bytes) (hzs : z.cells.size = 1)
    (a0 : Addr) (n : Nat) (olds : List Value) (hs : a.eval s = .slice (some a0) n n) (hlo : olds.length = n) (hro : Rd w (some a0) olds) (A : Option Addr) (c m : Nat) (news : List Value) (hx : a.eval x = .slice A m c) (hm : news.length = m) (hr : Rd w A news) (h1 : ∀ u ∈ news, u.oneCell' = true)
    (hA : A = none → c = 0) (h63 : n + m ≤ maxLen) (hbytes : (n + m) * bytes ≤ 140737488355328)
    (h : ∀ A' c' w', GotF w w' a0 (n + m) (olds ++ news) A' c' → K (a.put o.dst (.slice A' (n + m) c')) w') :
    if Region.wanted o (yielded ops a.tmps) = true then Oper.wp P o a w K Q else E := by
  have hw : Region.wanted o (yielded ops a.tmps) = true := by simp [Region.wanted, hgd]
  rw [if_pos hw]
  obtain ⟨A', c', w', hrun, h2⟩ := run_appF (P := P) w t o.type e i z bytes ht hi hz hsize hby hzs a0 n olds hlo hro A c m news hm hr h1 hA h63 hbytes
  unfold Oper.wp execOp
  simp only [ho, resolve, invoke, builtin, Sem.run_bind, Sem.run_pure, Result.andThen_ok, List.map_toArray, List.map_cons, List.map_nil, hs, hx, hrun]
  exact h A' c' w' h2
end Go.Proofs.Ytpldfdeikcaenaa
