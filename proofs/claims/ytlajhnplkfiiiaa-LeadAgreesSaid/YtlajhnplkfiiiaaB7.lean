/- slices.Clone at items; is a node a leaf. Conditions: at most 1000 items. -/
import Derived.Test.YtlajhnplkfiiiaaB6
namespace Go.Proofs.Ytlajhnplkfiiiaa
open Go.RowKit

theorem litW {w : World} (e : TypeId) (size : Nat) {q : Nat} (hq : q = w.heap.size) : RowW (w.alloc (.cells #[] e)) w.heap.size e size (.slice (some ⟨q, 0, none⟩) 0 0) 0 [] := by
  subst hq
  exact ⟨by simp, (fun _ h => by cases h), .inr ⟨w.heap.size, 0, #[], rfl, Nat.le_refl _, Bk.new _ _ _, Nat.le_refl _, Nat.zero_le _, by simp, by simp⟩⟩
/-- nothing that was there ahead of such a row is turned by an append onto it. -/
theorem rowW_no {w0 w w' : World} {e : TypeId} {size n : Nat} {v : Value} {xs : List Value} (h : Fr NoBlk w0 w) (ho : RowW w w0.heap.size e size v n xs) (hf : Fr (fun k => v.ownBlock = some k) w w') : Fr NoBlk w0 w' :=
  h.step hf (fun k hk e => by have := (ho.lt e).1; omega)
theorem wpList_appRow {P : Program} {w : World} {ops : Array Oper} {rest : List Oper} {o : Oper} {a : Act} {Q : Exit → Act → World → Prop} (hgd : o.guard = none) (s x : Operand) (t : TypeId)
    (ho : o.op = .call { callee := .builtin .append, args := #[s, x], argTypes := #[t, t] })
    (base : Nat) (e : TypeId) (i : TypeInfo) (z : Value) (size bytes : Nat) (ht : P.underlying t = some (.slice e)) (hi : P.info? e = some i) (hz : i.zero = some z)
    (hsize : i.size = size) (hby : i.bytes = bytes) (hzs : z.cells.size = size) (hpos : 0 < size)
    (v : Value) (n : Nat) (xs : List Value) (hs : a.eval s = v) (hown : RowW w base e size v n xs)
    (A : Option Addr) (c m : Nat) (news : List Value) (hx : a.eval x = .slice A m c) (hm : news.length = m * size) (hr : Rd w A news) (h1 : ∀ u ∈ news, u.oneCell' = true)
    (hA : A = none → c = 0) (h63 : n + m ≤ maxLen) (hbytes : (n + m) * bytes ≤ 140737488355328) (hbase : base ≤ w.heap.size)
    (h : ∀ v' w', RowW w' base e size v' (n + m) (xs ++ news) → Fr (fun k => v.ownBlock = some k) w w' → (v'.ownBlock = v.ownBlock ∨ v'.ownBlock = some w.heap.size) → wpList P ops Q rest (a.put o.dst v') w') : wpList P ops Q (o :: rest) a w :=
  wpList_plain hgd fun K hK => by
    obtain ⟨v', w', hrun, h2, h3, h5⟩ := run_append_rowW (P := P) w base t o.type e i z size bytes ht hi hz hsize hby hzs hpos v n xs hown A c m news hm hr h1 hA h63 hbytes hbase
    unfold Oper.wp execOp
    simp only [ho, resolve, invoke, builtin, Sem.run_bind, Sem.run_pure, Result.andThen_ok, List.map_toArray, List.map_cons, List.map_nil, hs, hx, hrun]
    exact hK _ _ (h v' w' h2 h3 h5)
/-- a node's cells. -/
def ndcT (A : Option Addr) (n c : Nat) (B : Option Addr) (m d : Nat) : Array Value := #[.slice A n c, .slice B m d]
set_option maxRecDepth 100000 in
theorem leafT_any (w : World) (g : Nat) (A : Option Addr) (n c : Nat) (B : Option Addr) (m d : Nat) (h : Bk w g 113 (ndcT A n c B m d)) :
    Calls Try.prog 54 #[.pointer (some ⟨g, 0, none⟩)] w fun en w' => en = .returned (.bool (decide (m = 0))) ∧ w = w' := by
  have c1 : w.cell? ⟨g, 1, none⟩ = some (.slice B m d) := h.cell 1
  clear h
  by_cases hm : m = 0
  · subst hm
    go_enter Try.func54, Try.ntmps54
    go_wp2_with fail
    go_ret
    exact ⟨rfl, rfl⟩
  · have hm2 : ((m : Int) == 0) = false := beq_eq_false_iff_ne.2 (by omega)
    have hm3 : decide (m = 0) = false := decide_eq_false hm
    rw [hm3]
    go_enter Try.func54, Try.ntmps54
    go_wp2_with fail
    go_ret
    exact ⟨rfl, rfl⟩
/-- a node's cells. -/
def ndcU (A : Option Addr) (n c : Nat) (B : Option Addr) (m d : Nat) : Array Value := #[.slice A n c, .slice B m d]
set_option maxRecDepth 100000 in
theorem leafU_any (w : World) (g : Nat) (A : Option Addr) (n c : Nat) (B : Option Addr) (m d : Nat) (h : Bk w g 101 (ndcU A n c B m d)) :
    Calls Try.prog 47 #[.pointer (some ⟨g, 0, none⟩)] w fun en w' => en = .returned (.bool (decide (m = 0))) ∧ w = w' := by
  have c1 : w.cell? ⟨g, 1, none⟩ = some (.slice B m d) := h.cell 1
  clear h
  by_cases hm : m = 0
  · subst hm
    go_enter Try.func47, Try.ntmps47
    go_wp2_with fail
    go_ret
    exact ⟨rfl, rfl⟩
  · have hm2 : ((m : Int) == 0) = false := beq_eq_false_iff_ne.2 (by omega)
    have hm3 : decide (m = 0) = false := decide_eq_false hm
    rw [hm3]
    go_enter Try.func47, Try.ntmps47
    go_wp2_with fail
    go_ret
    exact ⟨rfl, rfl⟩
end Go.Proofs.Ytlajhnplkfiiiaa
