/- The log's Append. Conditions: the record is no longer than a frame takes, and lies in other memory than the disk and the log. -/
import Derived.Test.YthnaggmafbhdmaaDoorLSync
namespace Go.Proofs.YthnaggmafbhdmaaDoor
open Go.RowKit Go.Maps

theorem step_app {P : Program} {w : World} {ops : Array Oper} {o : Oper} {a : Act} {K : Act → World → Prop} {Q : Exit → Act → World → Prop} {E : Prop} (hgd : o.guard = none) (s x : Operand) (t : TypeId)
    (ho : o.op = .call { callee := .builtin .append, args := #[s, x], argTypes := #[t, t] })
    (base : Nat) (e : TypeId) (i : TypeInfo) (z : Value) (bytes : Nat) (ht : P.underlying t = some (.slice e)) (hi : P.info? e = some i) (hz : i.zero = some z)
    (hsize : i.size = 1) (hby : i.bytes = bytes) (hzs : z.cells.size = 1)
    (v : Value) (n : Nat) (xs : List Value) (hs : a.eval s = v) (hown : w.ownsRow base e 1 v n xs)
    (A : Option Addr) (c m : Nat) (news : List Value) (hx : a.eval x = .slice A m c) (hm : news.length = m) (hr : Rd w A news) (h1 : ∀ u ∈ news, u.oneCell' = true)
    (hA : A = none → c = 0)
    (h63 : n + m ≤ maxLen) (hbytes : (n + m) * bytes ≤ 140737488355328) (hbase : base ≤ w.heap.size)
    (h : ∀ v' w', w'.ownsRow base e 1 v' (n + m) (xs ++ news) → w.grownBy w' v.ownBlock → (v' = .slice none 0 0 ↔ v = .slice none 0 0 ∧ m = 0) → (v'.ownBlock = v.ownBlock ∨ v'.ownBlock = some w.heap.size) →
      K (a.put o.dst v') w') :
    if Region.wanted o (yielded ops a.tmps) = true then Oper.wp P o a w K Q else E := by
  have hw : Region.wanted o (yielded ops a.tmps) = true := by simp [Region.wanted, hgd]
  rw [if_pos hw]
  obtain ⟨v', w', hrun, h2, h3, h4, h5⟩ := run_app (P := P) w base t o.type e i z bytes ht hi hz hsize hby hzs v n xs hown A c m news hm hr h1 hA h63 hbytes hbase
  unfold Oper.wp execOp
  simp only [ho, resolve, invoke, builtin, Sem.run_bind, Sem.run_pure, Result.andThen_ok, List.map_toArray, List.map_cons, List.map_nil, hs, hx, hrun]
  exact h v' w' h2 h3 h4 h5

def lput (p : PD) (L : PL) (part used : Nat) (r : Bs) : PD × PL × Int :=
  if (pAppend p (lfile L.name part) (frameOf r)).2 = 0 then ((pAppend p (lfile L.name part) (frameOf r)).1, { L with last := part, used := used + (frameOf r).length, waits := true, recs := L.recs ++ [r] }, 0)
  else ((pAppend p (lfile L.name part) (frameOf r)).1, L, (pAppend p (lfile L.name part) (frameOf r)).2)
def lappend (p : PD) (L : PL) (r : Bs) : PD × PL × Int :=
  if 0 < L.used ∧ L.size < L.used + (frameOf r).length then
    if L.last = 9 then (p, L, 2)
    else if (lsync p L).2.2 = 0 then lput (lsync p L).1 (lsync p L).2.1 (L.last + 1) 0 r else lsync p L
  else lput p L L.last L.used r

/-- a record is put into a part: the rest of Append. -/
structure PutIn (w w4 : World) (gd gl : Nat) (p4 : PD) (g : Lg) (S' : Nat → Prop) : Prop where
  lg : LgIn w4 w.heap.size gd gl g
  at_ : AtS w w4 gd p4 (Mine gl g S')
  sg : ∀ k, S' k → ¬ LBlks gl g k
  tg : ∀ k, S' k → k < w4.heap.size
end Go.Proofs.YthnaggmafbhdmaaDoor
