/- slices.Clone at items; is a node a leaf. Conditions: at most 1000 items. -/
import Derived.Test.YtkdcacajacndmaaB6
namespace Go.Proofs.Ytkdcacajacndmaa
open Go.RowKit

theorem litW {w : World} (e : TypeId) (size : Nat) {q : Nat} (hq : q = w.heap.size) : RowW (w.alloc (.cells #[] e)) w.heap.size e size (.slice (some ⟨q, 0, none⟩) 0 0) 0 [] := by
  subst hq
  exact ⟨by simp, (fun _ h => by cases h), .inr ⟨w.heap.size, 0, #[], rfl, Nat.le_refl _, Bk.new _ _ _, Nat.le_refl _, Nat.zero_le _, by simp, by simp⟩⟩
/-- nothing that was there ahead of such a row is turned by an append onto it. -/
theorem rowW_no {w0 w w' : World} {e : TypeId} {size n : Nat} {v : Value} {xs : List Value} (h : Fr NoBlk w0 w) (ho : RowW w w0.heap.size e size v n xs) (hf : Fr (fun k => v.ownBlock = some k) w w') : Fr NoBlk w0 w' :=
  h.step hf (fun k hk e => by have := (ho.lt e).1; omega)
theorem wpList_appRow {P : Program} {w : World} {ops : Array Oper} {rest : List Oper} {o : Oper} {a : Act} {Q : Exit → Act → World → Prop} (hgd : o.guard = none) (s x : Operand) (t : TypeId)
    (ho : o.op = .call { callee := .builtin .append, args := #[s, x], argTypes := #[t, t] })
    (base : Nat) (e : TypeId) (i : TypeInfo) (z : Value) (size bytes : Nat) (ht : P.underlying t = some (.slice e)) (hi : P.info? e = some i) (hz : i.zero = some z)
    (hsize : i.size = size) (hby : i.bytes = bytes) (hzs : z.cells.size = size) (hpos : 0 < size)
    (v : Value) (n : Nat) (xs : List Value) (hs : a.eval s = v) (hown : RowW w base e size v n xs)
    (A : Option Addr) (c m : Nat) (news : List Value) (hx : a.eval x = .slice A m c) (hm : news.length = m * size) (hr : Rd w A news) (h1 : ∀ u ∈ news, u.oneCell' = true)
    (hA : A = none → c = 0) (h63 : n + m ≤ maxLen) (hbytes : (n + m) * bytes ≤ 140737488355328) (hbase : base ≤ w.heap.size)
    (h : ∀ v' w', RowW w' base e size v' (n + m) (xs ++ news) → Fr (fun k => v.ownBlock = some k) w w' → (v'.ownBlock = v.ownBlock ∨ v'.ownBlock = some w.heap.size) → wpList P ops Q rest (a.put o.dst v') w') : wpList P ops Q (o :: rest) a w :=
  wpList_plain hgd fun K hK => by
    obtain ⟨v', w', hrun, h2, h3, h5⟩ := run_append_rowW (P := P) w base t o.type e i z size bytes ht hi hz hsize hby hzs hpos v n xs hown A c m news hm hr h1 hA h63 hbytes hbase
    unfold Oper.wp execOp
    simp only [ho, resolve, invoke, builtin, Sem.run_bind, Sem.run_pure, Result.andThen_ok, List.map_toArray, List.map_cons, List.map_nil, hs, hx, hrun]
    exact hK _ _ (h v' w' h2 h3 h5)
set_option maxRecDepth 100000 in
set_option maxHeartbeats 1000000 in
theorem cloneR_any (w : World) (A : Option Addr) (c : Nat) (n : Nat) (xs : List Value) (hl : xs.length = n * 5) (h1 : ∀ u ∈ xs, u.oneCell' = true) (hr : Rd w A xs) (hA : A = none → c = 0 ∧ n = 0) (hn : n ≤ 1000) :
    Calls Try.prog 74 #[.slice A n c] w fun en w' => ∃ A' c', en = .returned (.slice A' n c') ∧ RowW w' w.heap.size 124 5 (.slice A' n c') n xs ∧ Fr NoBlk w w' := by
  obtain ⟨i0, hi, hz0, hz1, hz2⟩ := info_parts infoIR
  rcases A with _ | ad
  · obtain ⟨rfl, rfl⟩ := hA rfl
    obtain rfl : xs = [] := List.eq_nil_of_length_eq_zero (by omega)
    have qn := Lib.run_eql_slice_nil (P := Try.prog) w 99 _ none 0 0 0 0 Try.underlying99
    go_enter Try.func74, Try.ntmps74
    go_wp2_with fail
    go_ret
    exact ⟨none, 0, rfl, RowW.nil _ _ _ _, Fr.refl _ _⟩
  · have HL := Lib.hid hl
    have H1 := Lib.hid h1
    obtain ⟨w1, hw1⟩ : ∃ w1, w1 = w.alloc (.cells #[] 124) := ⟨_, rfl⟩
    obtain ⟨q, hq⟩ : ∃ q, q = w.heap.size := ⟨_, rfl⟩
    have HO : Hid (RowW w1 w.heap.size 124 5 (.slice (some ⟨q, 0, none⟩) 0 0) 0 []) := by show RowW _ _ _ _ _ _ _; rw [hw1]; exact litW _ _ hq
    have HF : Hid (Fr NoBlk w w1) := by show Fr _ _ _; rw [hw1]; exact (Fr.refl _ _).alloc _
    have HS := Lib.hid (hr.nofr HF.out)
    have qn := Lib.run_eql_slice_nil (P := Try.prog) w 99 _ (some ad) n c 0 0 Try.underlying99
    clear hl h1 hr hA
    go_enter Try.func74, Try.ntmps74
    go_wp2_with (first | (at_builtin; rw [← hw1, ← hq]; go_loud (refine wpList_appRow rfl _ _ 99 rfl w.heap.size 124 i0 _ 5 64 Try.underlying99 hi hz0 hz1 hz2 rfl (by decide) (.slice (some ⟨q, 0, none⟩) 0 0) 0 [] rfl HO.out (some ad) c n xs rfl HL.out HS.out H1.out (fun h => by cases h) (by unfold maxLen; omega) (by omega) HF.out.size ?_); intro v2 w2 ho2 hf2 hb2; rw [List.nil_append, Nat.zero_add] at ho2; obtain ⟨A2, c2, rfl, hc2, hA2⟩ := ho2.form; have HO2 := Lib.hid ho2; have HF2 := Lib.hid (rowW_no HF.out HO.out hf2); clear ho2 hf2 hb2 hA2) | fail)
    go_ret
    exact ⟨A2, c2, rfl, HO2.out, HF2.out⟩
/-- a node's cells. -/
def ndcR (A : Option Addr) (n c : Nat) (B : Option Addr) (m d : Nat) : Array Value := #[.slice A n c, .slice B m d]
set_option maxRecDepth 100000 in
theorem leafR_any (w : World) (g : Nat) (A : Option Addr) (n c : Nat) (B : Option Addr) (m d : Nat) (h : Bk w g 102 (ndcR A n c B m d)) :
    Calls Try.prog 72 #[.pointer (some ⟨g, 0, none⟩)] w fun en w' => en = .returned (.bool (decide (m = 0))) ∧ w = w' := by
  have c1 : w.cell? ⟨g, 1, none⟩ = some (.slice B m d) := h.cell 1
  clear h
  by_cases hm : m = 0
  · subst hm
    go_enter Try.func72, Try.ntmps72
    go_wp2_with fail
    go_ret
    exact ⟨rfl, rfl⟩
  · have hm2 : ((m : Int) == 0) = false := beq_eq_false_iff_ne.2 (by omega)
    have hm3 : decide (m = 0) = false := decide_eq_false hm
    rw [hm3]
    go_enter Try.func72, Try.ntmps72
    go_wp2_with fail
    go_ret
    exact ⟨rfl, rfl⟩
end Go.Proofs.Ytkdcacajacndmaa
