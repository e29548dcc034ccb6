/- The values of a tree, of several cells each, as a list of their own; what is gathered in a box by a loop over a function. Conditions: at most 100000 keys. -/
import Derived.RangeFuncNested
import Derived.Test.YtlajhnplkfiiiaaN5T

namespace Go.Proofs.Ytlajhnplkfiiiaa
open Go.RowKit Go.Shelf
attribute [local go_sem] Oper.semAt_some
theorem Bk.others {w w' : World} {g : Nat} {t : TypeId} {cs : Array Value} {row : Option Nat} (h : Bk w g t cs) (hg : w.grownBy w' row) (hr : ∀ r, row = some r → ∃ o : Obj, w.heap[r]? = some o ∧ o.isCells = false) : Bk w' g t cs :=
  h.fr (Fr.ofGrown hg) fun e => by
    obtain ⟨o, ho, hc⟩ := hr g e.symm
    unfold Bk at h
    rw [h] at ho
    injection ho with ho
    rw [← ho] at hc
    cases hc
theorem own_others {w w' : World} {base : Nat} {e : TypeId} {size n : Nat} {v : Value} {xs : List Value} {row : Option Nat} (h : w.ownsRow base e size v n xs) (hg : w.grownBy w' row) (hr : ∀ r, row = some r → ∃ o : Obj, w.heap[r]? = some o ∧ o.isCells = false) : w'.ownsRow base e size v n xs :=
  own_fr h (Fr.ofGrown hg) fun k hk e => by
    obtain ⟨o, ho, hc⟩ := hr k e.symm
    rcases h.2 with ⟨rfl, _⟩ | ⟨g, cap, cur, rfl, _, hh, _⟩
    · cases hk
    · have e1 : g = k := by simpa [Value.ownBlock] using hk
      subst e1
      rw [hh] at ho
      injection ho with ho
      rw [← ho] at hc
      cases hc
theorem run_appW {P : Program} (w : World) (base : Nat) (t ty e : TypeId) (i : TypeInfo) (z : Value) (size bytes : Nat) (ht : P.underlying t = some (.slice e)) (hi : P.info? e = some i) (hz : i.zero = some z)
    (hsize : i.size = size) (hby : i.bytes = bytes) (hzs : z.cells.size = size) (hpos : 0 < size)
    (v : Value) (n : Nat) (xs : List Value) (hown : w.ownsRow base e size v n xs)
    (A : Option Addr) (c m : Nat) (news : List Value) (hm : news.length = m * size) (hr : Rd w A news) (h1 : ∀ u ∈ news, u.oneCell' = true)
    (hA : A = none → c = 0)
    (h63 : n + m ≤ maxLen) (hbytes : (n + m) * bytes ≤ 140737488355328) (hbase : base ≤ w.heap.size) :
    ∃ v' w', (Builtin.append_ #[t, t] ty #[v, .slice A m c]).run P w = .ok v' w' ∧ w'.ownsRow base e size v' (n + m) (xs ++ news) ∧ w.grownBy w' v.ownBlock ∧
      (v'.ownBlock = v.ownBlock ∨ v'.ownBlock = some w.heap.size) := by
  rcases A with _ | ad
  · have hn : news = [] := by
      rcases Nat.eq_zero_or_pos news.length with h0 | h0
      · exact List.eq_nil_of_length_eq_zero h0
      · obtain ⟨_, _, h, _⟩ := hr h0
        cases h
    subst hn
    obtain rfl := hA rfl
    obtain rfl : m = 0 := by
      rcases Nat.eq_zero_or_pos m with h0 | h0
      · exact h0
      · have := Nat.mul_pos h0 hpos
        simp only [List.length_nil] at hm
        omega
    exact ⟨v, w, run_append_owned_none w base t ty e i size ht hi v n xs hown, by simpa using hown, World.grownBy.refl w _, .inl rfl⟩
  · obtain ⟨v', w', h2, h3, h4, _, h6⟩ := run_append_own_at (P := P) w base t ty e i z size bytes ht hi hz hsize hby hzs hpos v n xs hown ad m c news hm
      (fun j u hu => by
        obtain ⟨b, o, e', hc⟩ := hr (by have := (List.getElem?_eq_some_iff.1 hu).1; omega)
        injection e' with e'
        subst e'
        have := hc j u hu
        unfold Addr.add
        split
        · subst j; simpa using this
        · exact this) h1 h63 hbytes hbase
    exact ⟨v', w', h2, h3, h4, h6⟩

/-- append to a row of the call's own inside a fence. -/
theorem wpListIn_appW {F : Fence} {nF : Nat} {P : Program} {w : World} {ops : Array Oper} {rest : List Oper} {o : Oper} {a : Act} {Q : Exit → Act → World → Prop} (hgd : o.guard = none) (s x : Operand) (t : TypeId)
    (ho : o.op = .call { callee := .builtin .append, args := #[s, x], argTypes := #[t, t] })
    (base : Nat) (e : TypeId) (i : TypeInfo) (z : Value) (size bytes : Nat) (ht : P.underlying t = some (.slice e)) (hi : P.info? e = some i) (hz : i.zero = some z)
    (hsize : i.size = size) (hby : i.bytes = bytes) (hzs : z.cells.size = size) (hpos : 0 < size)
    (v : Value) (n : Nat) (xs : List Value) (hs : a.eval s = v) (hown : w.ownsRow base e size v n xs)
    (A : Option Addr) (c m : Nat) (news : List Value) (hx : a.eval x = .slice A m c) (hm : news.length = m * size) (hr : Rd w A news) (h1 : ∀ u ∈ news, u.oneCell' = true)
    (hA : A = none → c = 0)
    (h63 : n + m ≤ maxLen) (hbytes : (n + m) * bytes ≤ 140737488355328) (hbase : base ≤ w.heap.size)
    (h : ∀ v' w', w'.ownsRow base e size v' (n + m) (xs ++ news) → w.grownBy w' v.ownBlock → (v'.ownBlock = v.ownBlock ∨ v'.ownBlock = some w.heap.size) →
      wpListIn F nF P ops Q rest (a.put o.dst v') w') : wpListIn F nF P ops Q (o :: rest) a w :=
  wpListIn_plain hgd fun K hK => by
    obtain ⟨v', w', hrun, h2, h3, h5⟩ := run_appW (P := P) w base t o.type e i z size bytes ht hi hz hsize hby hzs hpos v n xs hown A c m news hm hr h1 hA h63 hbytes hbase
    unfold Oper.wpIn
    refine ⟨by simp [Oper.about, ho, resolve, Target.leads, Sem.run_pure], ?_⟩
    rw [Oper.semAt_plain F _ _ (by rw [ho]; intro c hc'; cases hc')]
    simp [execOp, ho, resolve, invoke, builtin, hs, hx, hrun, Result.andThen]
    exact hK _ _ (h v' w' h2 h3 h5)
/-- between two rounds: what has been gathered lies behind the box gm; the boxes Bx are the iterator's. -/
structure GatV (w : World) (T E : TypeId) (gm : Nat) (Bx : Nat → Prop) (size n : Nat) (L : List Value) (W : World) : Prop where
  box : ∃ v, Bk W gm T #[v] ∧ W.ownsRow w.heap.size E size v n L
  ib : ∀ b, Bx b → ∃ X u, Bk W b X #[u] ∧ E ≠ X ∧ X ≠ T
  fr : Fr NoBlk w W
  ge : w.heap.size ≤ gm
theorem GatV.others {w W W' : World} {T E : TypeId} {gm : Nat} {Bx : Nat → Prop} {size n : Nat} {L : List Value} {row : Option Nat} (h : GatV w T E gm Bx size n L W) (hg : W.grownBy W' row) (hr : ∀ r, row = some r → w.heap.size ≤ r ∧ ∃ o : Obj, W.heap[r]? = some o ∧ o.isCells = false) : GatV w T E gm Bx size n L W' := by
  obtain ⟨v, hb, ho⟩ := h.box
  refine ⟨⟨v, hb.others hg fun r e => (hr r e).2, own_others ho hg fun r e => (hr r e).2⟩, fun b hb => ?_, h.fr.grown hg (fun r e hl => by have := (hr r e).1; omega), h.ge⟩
  obtain ⟨X, u, h1, h2⟩ := h.ib b hb
  exact ⟨X, u, h1.others hg fun r e => (hr r e).2, h2⟩
theorem GatV.next {w W W2 : World} {T E : TypeId} {gm : Nat} {Bx : Nat → Prop} {size n : Nat} {L : List Value} (h : GatV w T E gm Bx size n L W) {v v2 : Value} (hb : Bk W gm T #[v]) {o : Obj} (ho : (W.alloc o).ownsRow w.heap.size E size v n L) (u : List Value)
    (ho2 : W2.ownsRow w.heap.size E size v2 (n + 1) (L ++ u)) (hg : (W.alloc o).grownBy W2 v.ownBlock) (hET : E ≠ T) {K : Nat → Prop} (hK : ∀ b, K b → b < w.heap.size ∨ Bx b) :
    KeepsOthers W (W2.setCell ⟨gm, 0, none⟩ v2) ∧ Keep K W (W2.setCell ⟨gm, 0, none⟩ v2) ∧ GatV w T E gm Bx size (n + 1) (L ++ u) (W2.setCell ⟨gm, 0, none⟩ v2) := by
  have hf1 : Fr NoBlk W (W.alloc o) := (Fr.refl _ _).alloc _
  have hbA : Bk (W.alloc o) gm T #[v] := hb.alloc o
  have n1 : some gm ≠ v.ownBlock := fun e => own_apart ho hbA hET e.symm
  have hb2 : Bk W2 gm T #[v] := hbA.fr (Fr.ofGrown hg) n1
  have n3 : v2.ownBlock ≠ some gm := own_apart ho2 hb2 hET
  have hfs : Fr (fun i => i = gm) W2 (W2.setCell ⟨gm, 0, none⟩ v2) := (Fr.refl (fun i => i = gm) W2).setCell (p := ⟨gm, 0, none⟩) (fun _ => rfl) _
  have hall : Fr (fun i => i = gm ∨ some i = v.ownBlock) W (W2.setCell ⟨gm, 0, none⟩ v2) :=
    ((hf1.mono (D := fun i => i = gm ∨ some i = v.ownBlock) fun _ _ h => h.elim).step (Fr.ofGrown hg) fun _ _ e => .inr e).step hfs fun _ _ e => .inl e
  have hlow : ∀ i, some i = v.ownBlock → w.heap.size ≤ i := fun i e => by
    rcases ho.2 with ⟨rfl, _⟩ | ⟨g', cap, cur, rfl, hbb, _⟩
    · cases e
    · have e1 : i = g' := by simpa [Value.ownBlock] using e
      omega
  have hbx : ∀ b, Bx b → b ≠ gm ∧ some b ≠ v.ownBlock ∧ ∃ X u, Bk W b X #[u] ∧ E ≠ X ∧ X ≠ T := fun b hbb => by
    obtain ⟨X, u, h1, h2, h3⟩ := h.ib b hbb
    exact ⟨h1.apart hb h3, fun e => own_apart ho (h1.alloc o) h2 e.symm, X, u, h1, h2, h3⟩
  have hge := h.ge
  have hsz := h.fr.size
  refine ⟨((KeepsOthers.alloc W o).trans (KeepsOthers.of_grownBy hg fun j o' e hj => ?_)).trans (KeepsOthers.setCell _ _ _), fun i hi => ?_, ⟨⟨v2, ?_, ?_⟩, fun b hbb => ?_, h.fr.step hall (fun i hi e => ?_), h.ge⟩⟩
  · rcases ho.2 with ⟨rfl, _⟩ | ⟨g, cap, cur, rfl, _, hh, _⟩
    · cases e
    · have e1 : g = j := by simpa [Value.ownBlock] using e
      subst e1
      rw [hh] at hj
      injection hj with hj
      rw [← hj]
      rfl
  · rcases hK i hi with h1 | h1
    · exact hall.block i (by omega) fun e => by
        rcases e with e | e
        · omega
        · have := hlow i e; omega
    · obtain ⟨m1, m2, X, u, m3, _⟩ := hbx i h1
      exact hall.block i m3.lt fun e => by
        rcases e with e | e
        · exact m1 e
        · exact m2 e
  · have h := hb2.put 0 v2
    simpa using h
  · exact own_fr ho2 hfs fun i hi e => n3 (e ▸ hi)
  · obtain ⟨m1, m2, X, u, m3, m4⟩ := hbx b hbb
    exact ⟨X, u, m3.fr hall fun e => by
      rcases e with e | e
      · exact m1 e
      · exact m2 e, m4⟩
  · rcases e with e | e
    · omega
    · have := hlow i e; omega
/-- a value's cells. -/
def valcT (x : ItT) : List Value := [.int .i64 x.2.slot, .int .u64 (x.2.bal : Int), .string (bstr x.2.val)]
def valsT (xs : List ItT) : List Value := xs.flatMap valcT
theorem valsT_snoc (xs : List ItT) (x : ItT) : valsT (xs ++ [x]) = valsT xs ++ [.int .i64 x.2.slot, .int .u64 (x.2.bal : Int), .string (bstr x.2.val)] := by
  unfold valsT
  rw [List.flatMap_append]
  simp [valcT]
theorem vinfoT : (Try.prog.info? 63).map (fun i => (i.zero, i.size, i.bytes)) = some (some (.agg #[.int .i64 0, .int .u64 0, .string { data := #[] }] : Value), 3, 32) := by kernel_rfl
end Go.Proofs.Ytlajhnplkfiiiaa
