/- What a right transaction is without one of its operations, and with more regions: pure facts. No condition. -/
import Derived.Test.YtkohinhbmnoajaaCopyA
import Derived.Test.YtkohinhbmnoajaaWiderP
import Derived.Test.YtkohinhbmnoajaaAlike
import Derived.ArgAppend
namespace Go.Proofs.Ytkohinhbmnoajaa
open Go.RowKit

theorem right_more {t : Tx} {r n : Int} (h : rightR t r = true) (h1 : r ≤ n) (h2 : n ≤ 3) : rightR t n = true := by
  obtain ⟨a1, _, a3, a4, a5, a6, a7, a8, a9⟩ := right_parts h
  refine right_mk (by omega) h2 a3 a4 a5 a6 a7 a8 ?_
  unfold kindR at a9 ⊢
  by_cases k1 : t.kind = 1
  · rw [if_pos k1] at a9 ⊢
    exact a9
  · rw [if_neg k1] at a9 ⊢
    by_cases k2 : t.kind = 2
    · rw [if_pos k2] at a9 ⊢
      simp only [Bool.and_eq_true, decide_eq_true_eq] at a9 ⊢
      exact ⟨a9.1, by omega⟩
    · rw [if_neg k2] at a9
      cases a9

def fewerT (u : Tx) (A : Option Addr) (c : Nat) (os : List Opn) : Tx := ⟨u.kind, u.ra, u.rc, u.reads, u.wa, u.wc, u.writes, A, c, os, u.to⟩
theorem fewer_right {w w' : World} {t u : Tx} {A : Option Addr} {c : Nat} {os : List Opn} {r : Int} (hc : Copied w w' t u) (hos : ∀ x ∈ os, x ∈ u.ops) (hl : os.length ≤ u.ops.length) (h0 : 0 < t.ops.length) (hr : rightR t r = true) : rightR (fewerT u A c os) r = true := by
  rw [← right_alike hc r] at hr
  obtain ⟨a1, a2, a3, a4, a5, a6, a7, a8, a9⟩ := right_parts hr
  refine right_mk a1 a2 a3 a4 a5 a6 a7 a8 ?_
  unfold kindR at a9 ⊢
  rw [← hc.ops.1] at h0
  show (if u.kind = 1 then _ else _) = true
  by_cases k1 : u.kind = 1
  · rw [if_pos k1] at a9 ⊢
    simp only [Bool.and_eq_true, decide_eq_true_eq, Bool.not_eq_true', List.any_eq_false] at a9 ⊢
    obtain ⟨⟨b1, b2⟩, b3⟩ := a9
    exact ⟨⟨b1, by show os.length ≤ 16; omega⟩, fun x hx => b3 x (hos x hx)⟩
  · rw [if_neg k1] at a9
    by_cases k2 : u.kind = 2
    · rw [if_pos k2] at a9
      simp only [Bool.and_eq_true, decide_eq_true_eq] at a9
      omega
    · rw [if_neg k2] at a9
      cases a9

/-- a slice behind an append onto a full one. -/
structure GotF (w w' : World) (a0 : Addr) (n : Nat) (xs : List Value) (A : Option Addr) (c : Nat) : Prop where
  lies : ∀ k, ablk A k → k = a0.block ∨ w.heap.size ≤ k
  rd : Rd w' A xs
  le : n ≤ c
  max : c ≤ maxLen
  nil : A = none → c = 0
  fr : Fr NoBlk w w'

theorem run_appF {P : Program} (w : World) (t ty e : TypeId) (i : TypeInfo) (z : Value) (size bytes : Nat) (ht : P.underlying t = some (.slice e)) (hi : P.info? e = some i) (hz : i.zero = some z)
    (hsize : i.size = size) (hby : i.bytes = bytes) (hzs : z.cells.size = size) (hpos : 0 < size)
    (a0 : Addr) (n : Nat) (olds : List Value) (hlo : olds.length = n * size) (ho : Rd w (some a0) olds) (ad : Addr) (c m : Nat) (news : List Value) (hm : news.length = m * size) (hr : Rd w (some ad) news) (h1 : ∀ u ∈ news, u.oneCell' = true)
    (h63 : n + m ≤ maxLen) (hbytes : (n + m) * bytes ≤ 140737488355328) :
    ∃ A' c' w', (Builtin.append_ #[t, t] ty #[.slice (some a0) n n, .slice (some ad) m c]).run P w = .ok (.slice A' (n + m) c') w' ∧ GotF w w' a0 (n + m) (olds ++ news) A' c' := by
  have hcells : ∀ (b : Addr) (xs : List Value), Rd w (some b) xs → ∀ j u, xs[j]? = some u → w.cell? (b.add j) = some u := fun b xs hb j u hu => by
    obtain ⟨b', o, e', hc⟩ := hb (by have := (List.getElem?_eq_some_iff.1 hu).1; omega)
    injection e' with e'
    subst e'
    have := hc j u hu
    unfold Addr.add
    split
    · subst j; simpa using this
    · exact this
  by_cases h0 : m = 0
  · subst h0
    have hn : news = [] := List.eq_nil_of_length_eq_zero (by simpa using hm)
    subst hn
    subst hsize
    refine ⟨some a0, n, w, run_append_nothing w t t ty e i ht hi (some a0) n n (Nat.le_refl _) _ (Src.ofSlice w ht ad 0 c [] hm (fun j u hu => by cases hu) (fun u hu => by cases hu)), ?_⟩
    rw [List.append_nil]
    exact ⟨(fun k ⟨b, hb, hk⟩ => by injection hb with hb; subst hb; exact .inl hk.symm), ho, Nat.le_refl _, by omega, (fun h => by cases h), Fr.refl _ _⟩
  · obtain ⟨v', w', hrun, hown, hgr⟩ := run_append_arg_grows (P := P) w t ty e i z size bytes ht hi hz hsize hby hzs hpos a0 n n olds hlo (hcells _ _ ho) ad m c news hm (hcells _ _ hr) (by omega) h63 hbytes
    obtain ⟨A', c', rfl, hle, hnil⟩ := own_form hown
    exact ⟨A', c', w', hrun, (fun k ⟨b, hb, hk⟩ => .inr (own_blk hown (by rw [hb, ← hk]; rfl)).1), Rd.of_ownN hown, hle, own_cap hown, hnil, (Fr.ofGrown hgr).mono (fun _ _ h => by cases h)⟩

theorem step_appF {P : Program} {w : World} {ops : Array Oper} {o : Oper} {a : Act} {K : Act → World → Prop} {Q : Exit → Act → World → Prop} {E : Prop} (hgd : o.guard = none) (s x : Operand) (t : TypeId)
    (ho : o.op = .call { callee := .builtin .append, args := #[s, x], argTypes := #[t, t] })
    (e : TypeId) (i : TypeInfo) (z : Value) (size bytes : Nat) (ht : P.underlying t = some (.slice e)) (hi : P.info? e = some i) (hz : i.zero = some z)
    (hsize : i.size = size) (hby : i.bytes = bytes) (hzs : z.cells.size = size) (hpos : 0 < size)
    (a0 : Addr) (n : Nat) (olds : List Value) (hs : a.eval s = .slice (some a0) n n) (hlo : olds.length = n * size) (hro : Rd w (some a0) olds) (ad : Addr) (c m : Nat) (news : List Value) (hx : a.eval x = .slice (some ad) m c) (hm : news.length = m * size) (hr : Rd w (some ad) news) (h1 : ∀ u ∈ news, u.oneCell' = true)
    (h63 : n + m ≤ maxLen) (hbytes : (n + m) * bytes ≤ 140737488355328)
    (h : ∀ A' c' w', GotF w w' a0 (n + m) (olds ++ news) A' c' → K (a.put o.dst (.slice A' (n + m) c')) w') :
    if Region.wanted o (yielded ops a.tmps) = true then Oper.wp P o a w K Q else E := by
  have hw : Region.wanted o (yielded ops a.tmps) = true := by simp [Region.wanted, hgd]
  rw [if_pos hw]
  obtain ⟨A', c', w', hrun, h2⟩ := run_appF (P := P) w t o.type e i z size bytes ht hi hz hsize hby hzs hpos a0 n olds hlo hro ad c m news hm hr h1 h63 hbytes
  unfold Oper.wp execOp
  simp only [ho, resolve, invoke, builtin, Sem.run_bind, Sem.run_pure, Result.andThen_ok, List.map_toArray, List.map_cons, List.map_nil, hs, hx, hrun]
  exact h A' c' w' h2

theorem Rd.fewer {w : World} {g : Nat} {xs : List Opn} (h : Rd w (some ⟨g, 0, none⟩) (opsc xs)) (p : Nat) : Rd w (some ⟨g, 0, none⟩) (opsc (xs.take p)) := by
  have e : opsc xs = opsc (xs.take p) ++ opsc (xs.drop p) := by rw [← opsc_append, List.take_append_drop]
  rw [e] at h
  intro hp
  obtain ⟨b, o, e1, hc⟩ := h (by rw [List.length_append]; omega)
  exact ⟨b, o, e1, fun j v hj => hc j v (by rw [List.getElem?_append_left (List.getElem?_eq_some_iff.1 hj).1]; exact hj)⟩
theorem Rd.later {w : World} {g : Nat} {xs : List Opn} (h : Rd w (some ⟨g, 0, none⟩) (opsc xs)) (p : Nat) (hp : p ≤ xs.length) : Rd w (some ⟨g, p * 4, none⟩) (opsc (xs.drop p)) := by
  have e : opsc xs = opsc (xs.take p) ++ opsc (xs.drop p) := by rw [← opsc_append, List.take_append_drop]
  have hl : (opsc (xs.take p)).length = p * 4 := by rw [opsc_len, List.length_take, Nat.min_eq_left hp]
  rw [e] at h
  intro hq
  obtain ⟨b, o, e1, hc⟩ := h (by rw [List.length_append]; omega)
  injection e1 with e1
  injection e1 with e1 e2 e3
  subst e1 e2
  refine ⟨_, _, rfl, fun j v hj => ?_⟩
  have := hc (p * 4 + j) v (by rw [List.getElem?_append_right (by omega), hl, Nat.add_sub_cancel_left]; exact hj)
  rwa [Nat.zero_add] at this
theorem opsc_one (xs : List Opn) : ∀ u ∈ opsc xs, u.oneCell' = true := by
  intro u hu
  unfold opsc at hu
  obtain ⟨x, _, hx⟩ := List.mem_flatMap.1 hu
  unfold opc at hx
  simp only [List.mem_cons, List.not_mem_nil, or_false] at hx
  rcases hx with rfl | rfl | rfl | rfl <;> rfl
structure Fewed (wc wx : World) (gc : Nat) (u : Tx) (A : Option Addr) (c : Nat) (os : List Opn) : Prop where
  bk : Bk wx gc 26 (txa (fewerT u A c os))
  inn : TxIn wx (fewerT u A c os)
  sub : ∀ x ∈ os, x ∈ u.ops
  len : os.length ≤ u.ops.length
  fr : Fr (fun k => k = gc) wc wx

theorem fewed_any {w6 wc W w9 : World} {gc g p N : Nat} {u : Tx} {A : Option Addr} {c : Nat} (hgc : gc = w6.heap.size) (hg : g < gc) (hu : TxIn w6 u) (hf6 : Fr NoBlk w6 wc) (hb : Bk wc gc 26 (txa u)) (hsz : W.heap.size = wc.heap.size)
    (hgot : GotF W w9 ⟨g, 0, none⟩ N (opsc (u.ops.take p) ++ opsc (u.ops.drop (p + 1))) A c) (hf9 : Fr NoBlk wc w9) (hN : N = (u.ops.take p ++ u.ops.drop (p + 1)).length) :
    Fewed wc (w9.setCell ⟨gc, 3, none⟩ (.slice A N c)) gc u A c (u.ops.take p ++ u.ops.drop (p + 1)) := by
  have hu9 := hu.nofr (hf6.trans hf9)
  have hfs : Fr (fun k => k = gc) w9 (w9.setCell ⟨gc, 3, none⟩ (.slice A N c)) := Fr.putV (Fr.refl _ _)
  have hlow : ∀ {B : Option Addr} {xs : List Value}, Rd w6 B xs → 0 < xs.length → ∀ k, ablk B k → ¬ k = gc := fun hr hp k hk e => by
    have := hr.lt hp hk
    omega
  have hsub : ∀ x ∈ u.ops.take p ++ u.ops.drop (p + 1), x ∈ u.ops := fun x hx => by
    rcases List.mem_append.1 hx with h | h
    · exact List.mem_of_mem_take h
    · exact List.mem_of_mem_drop h
  refine ⟨?_, ⟨hu9.reads.fr' hfs (fun hp k hk => hlow hu.reads hp k hk), hu9.writes.fr' hfs (fun hp k hk => hlow hu.writes hp k hk), ?_, ?_, hu9.texts, hu9.rl, hu9.wl, ?_⟩, hsub, ?_, (hf9.mono fun _ _ h => h.elim).trans hfs⟩
  · have h := (hb.fr hf9 (fun h => h)).put 3 (.slice A N c)
    rw [hN] at h ⊢
    exact h
  · show Rd _ A (opsc (u.ops.take p ++ u.ops.drop (p + 1)))
    rw [opsc_append]
    refine hgot.rd.fr' hfs (fun _ k hk e => ?_)
    have := hb.lt
    rcases hgot.lies k hk with h | h
    · simp only at h
      omega
    · omega
  · intro x hx
    have h1 := hu9.vals x (hsub x hx)
    exact ⟨⟨h1.1.1.fr' hfs (fun hp k hk => hlow (hu.vals x (hsub x hx)).1.1 hp k hk), h1.1.2⟩, h1.2⟩
  · show (u.ops.take p ++ u.ops.drop (p + 1)).length ≤ c ∧ _
    rw [← hN]
    exact ⟨hgot.le, hgot.max, hgot.nil⟩
  · rw [List.length_append, List.length_take, List.length_drop]
    omega
theorem Fewed.drew {wc wx : World} {gc : Nat} {u : Tx} {A : Option Addr} {c : Nat} {os : List Opn} (h : Fewed wc wx gc u A c os) : Fewed wc wx.drew gc u A c os := ⟨h.bk, h.inn.nofr ((Fr.refl _ _).drew), h.sub, h.len, h.fr.drew⟩

/-- an int's lowest ten bits. -/
theorem low_ten (k : Int) : ∃ q : Nat, bits .and .i64 k 1023 = (q : Int) ∧ q ≤ 1023 := by
  have hq : (BitVec.ofInt 64 k &&& BitVec.ofInt 64 1023).toNat ≤ 1023 := by
    rw [BitVec.toNat_and]
    have := Nat.and_le_right (n := (BitVec.ofInt 64 k).toNat) (m := (BitVec.ofInt 64 1023).toNat)
    have e : (BitVec.ofInt 64 1023).toNat = 1023 := by decide
    omega
  refine ⟨(BitVec.ofInt 64 k &&& BitVec.ofInt 64 1023).toNat, ?_, hq⟩
  show IntKind.i64.wrap (((BitVec.ofInt 64 k &&& BitVec.ofInt 64 1023).toNat : Nat) : Int) = _
  generalize (BitVec.ofInt 64 k &&& BitVec.ofInt 64 1023).toNat = q at *
  exact IntWalk.i64_in _ (by omega)
end Go.Proofs.Ytkohinhbmnoajaa
