/- The program's Check, from its parts. No condition but lengths. -/
import Derived.Test.YtdgjjkmgdjiliaaFuncs
import Derived.Deep.Light
namespace Go.Proofs.Ytdgjjkmgdjiliaa
open Go.RowKit

/-- a transaction by value: its kind, its lists with where they lie and their room, its region. -/
structure Tx where
  kind : Int
  ra : Option Addr
  rc : Nat
  reads : List Bs
  wa : Option Addr
  wc : Nat
  writes : List Bs
  oa : Option Addr
  oc : Nat
  ops : List Opn
  to : Int
def txa (t : Tx) : Array Value := #[.int .i64 t.kind, .slice t.ra t.reads.length t.rc, .slice t.wa t.writes.length t.wc, .slice t.oa t.ops.length t.oc, .int .i64 t.to]
def txv (t : Tx) : Value := .agg (txa t)
structure TxIn (w : World) (t : Tx) : Prop where
  reads : Rd w t.ra (sts t.reads)
  writes : Rd w t.wa (sts t.writes)
  ops : Rd w t.oa (opsc t.ops)
  vals : ∀ x ∈ t.ops, Part w x.val ∧ x.val.2.2.length ≤ x.val.2.1 ∧ x.val.2.1 ≤ maxLen ∧ x.key.length ≤ maxLen
  texts : (∀ k ∈ t.reads, k.length ≤ maxLen) ∧ ∀ k ∈ t.writes, k.length ≤ maxLen
  rl : t.reads.length ≤ t.rc ∧ t.rc ≤ maxLen ∧ (t.ra = none → t.rc = 0)
  wl : t.writes.length ≤ t.wc ∧ t.wc ≤ maxLen ∧ (t.wa = none → t.wc = 0)
  ol : t.ops.length ≤ t.oc ∧ t.oc ≤ maxLen ∧ (t.oa = none → t.oc = 0)
theorem TxIn.nofr {w w' : World} {t : Tx} (h : TxIn w t) (hf : Fr NoBlk w w') : TxIn w' t :=
  ⟨h.reads.nofr hf, h.writes.nofr hf, h.ops.nofr hf, fun x hx => ⟨⟨(h.vals x hx).1.1.nofr hf, (h.vals x hx).1.2⟩, (h.vals x hx).2⟩, h.texts, h.rl, h.wl, h.ol⟩

theorem Bk.new2 (w : World) (o : Obj) (t : TypeId) (cs : Array Value) : Bk ((w.alloc o).alloc (.cells cs t)) (w.heap.size + 1) t cs := by
  have h := Bk.new (w.alloc o) t cs
  rwa [show (w.alloc o).heap.size = w.heap.size + 1 by simp] at h

/-- is an operation right among a transaction's keys. -/
def opR (t : Tx) (x : Opn) : Bool := rOp (inB t.writes x.key) (inB t.reads x.key) x.key.isEmpty x.kind x.val.2.2.length x.n

theorem kindCases (k : Int) : k = 1 ∨ k = 2 ∨ k = 3 ∨ k = 4 ∨ k = 5 ∨ k = 6 ∨ k = 7 ∨ (k ≠ 1 ∧ k ≠ 2 ∧ k ≠ 3 ∧ k ≠ 4 ∧ k ≠ 5 ∧ k ≠ 6 ∧ k ≠ 7) := by omega

end Go.Proofs.Ytdgjjkmgdjiliaa
