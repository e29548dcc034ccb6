/- The program's Check, from its parts. No condition but lengths. -/
import Derived.Test.YtakbjjohfcgaoaaFuncs
import Derived.Deep.Light
namespace Go.Proofs.Ytakbjjohfcgaoaa
open Go.RowKit

/-- a transaction by value: its kind, its lists with where they lie and their room, its region. -/
structure Tx where
  kind : Int
  ra : Option Addr
  rc : Nat
  reads : List Bs
  wa : Option Addr
  wc : Nat
  writes : List Bs
  oa : Option Addr
  oc : Nat
  ops : List Opn
  to : Int
def txa (t : Tx) : Array Value := #[.int .i64 t.kind, .slice t.ra t.reads.length t.rc, .slice t.wa t.writes.length t.wc, .slice t.oa t.ops.length t.oc, .int .i64 t.to]
def txv (t : Tx) : Value := .agg (txa t)
structure TxIn (w : World) (t : Tx) : Prop where
  reads : Rd w t.ra (sts t.reads)
  writes : Rd w t.wa (sts t.writes)
  ops : Rd w t.oa (opsc t.ops)
  vals : ∀ x ∈ t.ops, Part w x.val ∧ x.val.2.2.length ≤ x.val.2.1 ∧ x.val.2.1 ≤ maxLen ∧ x.key.length ≤ maxLen
  texts : (∀ k ∈ t.reads, k.length ≤ maxLen) ∧ ∀ k ∈ t.writes, k.length ≤ maxLen
  rl : t.reads.length ≤ t.rc ∧ t.rc ≤ maxLen ∧ (t.ra = none → t.rc = 0)
  wl : t.writes.length ≤ t.wc ∧ t.wc ≤ maxLen ∧ (t.wa = none → t.wc = 0)
  ol : t.ops.length ≤ t.oc ∧ t.oc ≤ maxLen ∧ (t.oa = none → t.oc = 0)
theorem TxIn.nofr {w w' : World} {t : Tx} (h : TxIn w t) (hf : Fr NoBlk w w') : TxIn w' t :=
  ⟨h.reads.nofr hf, h.writes.nofr hf, h.ops.nofr hf, fun x hx => ⟨⟨(h.vals x hx).1.1.nofr hf, (h.vals x hx).1.2⟩, (h.vals x hx).2⟩, h.texts, h.rl, h.wl, h.ol⟩

set_option maxRecDepth 100000 in
theorem writes_any (w : World) (t : Tx) (key : Bs) (ht : TxIn w t) :
    Calls Try.prog 73 #[txv t, .string (bstr key)] w fun e w' => e = .returned (.bool (inB t.writes key)) ∧ Fr NoBlk w w' := by
  have HF : Hid (Fr NoBlk w (w.alloc (.cells (txa t) 30))) := (Fr.refl _ _).alloc _
  have HC := Lib.hid (contains_any _ t.wa _ t.wc t.writes key rfl (ht.writes.nofr HF.out) (Nat.le_trans ht.wl.1 ht.wl.2.1))
  clear ht
  unfold txa at HC HF
  unfold txv txa
  generalize inB t.writes key = r at *
  generalize t.writes.length = wn at *
  generalize t.reads.length = rn at *
  generalize t.ops.length = on at *
  go_enter Try.func73, Try.ntmps73
  go_wp2_with fail
  refine HC.out.mono ?_
  rintro e w1 ⟨rfl, rfl⟩
  go_wp2
  go_ret
  exact ⟨rfl, HF.out⟩

set_option maxRecDepth 100000 in
theorem both_any (w : World) (t : Tx) (g : Nat) (key : Bs) (ht : TxIn w t) (hb : Bk w g 30 (txa t)) :
    Calls Try.prog 72 #[.string (bstr key), .pointer (some ⟨g, 0, none⟩)] w fun e w' => e = .returned (.bool (inB t.writes key)) ∧ Fr NoBlk w w' := by
  have HC := Lib.hid (writes_any w t key ht)
  have c0 : w.cell? ⟨g, 0, none⟩ = some (.int .i64 t.kind) := hb.cell 0
  have c1 : w.cell? ⟨g, 1, none⟩ = some (.slice t.ra t.reads.length t.rc) := hb.cell 1
  have c2 : w.cell? ⟨g, 2, none⟩ = some (.slice t.wa t.writes.length t.wc) := hb.cell 2
  have c3 : w.cell? ⟨g, 3, none⟩ = some (.slice t.oa t.ops.length t.oc) := hb.cell 3
  have c4 : w.cell? ⟨g, 4, none⟩ = some (.int .i64 t.to) := hb.cell 4
  clear ht hb
  unfold txv txa at HC
  go_enter Try.func72, Try.ntmps72
  go_wp2_with fail
  refine HC.out.mono ?_
  rintro e w1 ⟨rfl, hf⟩
  have HF := Lib.hid hf
  clear hf HC
  go_wp2
  go_ret
  exact ⟨rfl, HF.out⟩

theorem Bk.new2 (w : World) (o : Obj) (t : TypeId) (cs : Array Value) : Bk ((w.alloc o).alloc (.cells cs t)) (w.heap.size + 1) t cs := by
  have h := Bk.new (w.alloc o) t cs
  rwa [show (w.alloc o).heap.size = w.heap.size + 1 by simp] at h

/-- is an operation right among a transaction's keys. -/
def opR (t : Tx) (x : Opn) : Bool := rOp (inB t.writes x.key) (inB t.reads x.key) x.key.isEmpty x.kind x.val.2.2.length x.n

theorem kindCases (k : Int) : k = 1 ∨ k = 2 ∨ k = 3 ∨ k = 4 ∨ k = 5 ∨ k = 6 ∨ k = 7 ∨ (k ≠ 1 ∧ k ≠ 2 ∧ k ≠ 3 ∧ k ≠ 4 ∧ k ≠ 5 ∧ k ≠ 6 ∧ k ≠ 7) := by omega

set_option maxRecDepth 100000 in
set_option maxHeartbeats 2000000 in
theorem rightOp_any (w : World) (t : Tx) (x : Opn) (ht : TxIn w t) (hv : x.val.2.2.length ≤ maxLen) (hk : x.key.length ≤ maxLen) :
    Calls Try.prog 77 #[opv x, txv t] w fun e w' => e = .returned (.bool (opR t x)) ∧ Fr NoBlk w w' := by
  have HF : Hid (Fr NoBlk w ((w.alloc (.cells #[.int .i64 x.kind, st x.key, sl x.val, .int .i64 x.n] 47)).alloc (.cells (txa t) 30))) := ((Fr.refl _ _).alloc _).alloc _
  have HW := Lib.hid fun W (hf : Fr NoBlk w W) => writes_any W t x.key (ht.nofr hf)
  have HC := Lib.hid fun W (hf : Fr NoBlk w W) => contains_any W t.ra _ t.rc t.reads x.key rfl (ht.reads.nofr hf) (Nat.le_trans ht.rl.1 ht.rl.2.1)
  clear ht
  obtain ⟨kind, key, ⟨va, vc, vb⟩, nn⟩ := x
  have HD : Hid (opR t ⟨kind, key, ⟨va, vc, vb⟩, nn⟩ = rOp (inB t.writes key) (inB t.reads key) key.isEmpty kind vb.length nn) := rfl
  unfold txa sl st at HF
  unfold txv txa at HW
  dsimp only at HF HW HC hv hk
  unfold opv txv txa sl st
  dsimp only
  have e3 := bstr_toList key
  have e4 := bstr_size key
  unfold maxLen at hv hk
  generalize opR t ⟨kind, key, ⟨va, vc, vb⟩, nn⟩ = res at *
  generalize inB t.writes key = wr at *
  generalize inB t.reads key = rd at *
  generalize t.writes.length = wn at *
  generalize t.reads.length = rn at *
  generalize t.ops.length = on at *
  generalize vb.length = vl at *
  go_enter Try.func77, Try.ntmps77
  go_wp2_with fail
  refine (HW.out _ HF.out).mono ?_
  rintro e w1 ⟨rfl, hf1⟩
  have HF1 := Lib.hid (HF.out.trans hf1)
  have B1 := ((Bk.new w 47 #[.int .i64 kind, .string (bstr key), .slice va vl vc, .int .i64 nn]).alloc (.cells #[.int .i64 t.kind, .slice t.ra rn t.rc, .slice t.wa wn t.wc, .slice t.oa on t.oc, .int .i64 t.to] 30)).fr hf1 (fun h => h)
  have B2 := (Bk.new2 w (.cells #[.int .i64 kind, .string (bstr key), .slice va vl vc, .int .i64 nn] 47) 30 #[.int .i64 t.kind, .slice t.ra rn t.rc, .slice t.wa wn t.wc, .slice t.oa on t.oc, .int .i64 t.to]).fr hf1 (fun h => h)
  have p0 : w1.cell? ⟨w.heap.size, 0, none⟩ = some (.int .i64 kind) := B1.cell 0
  have p1 : w1.cell? ⟨w.heap.size, 1, none⟩ = some (.string (bstr key)) := B1.cell 1
  have p2 : w1.cell? ⟨w.heap.size, 2, none⟩ = some (.slice va vl vc) := B1.cell 2
  have p3 : w1.cell? ⟨w.heap.size, 3, none⟩ = some (.int .i64 nn) := B1.cell 3
  have q1 : w1.cell? ⟨w.heap.size + 1, 1, none⟩ = some (.slice t.ra rn t.rc) := B2.cell 1
  have hC1 := HC.out w1 HF1.out
  have HC1 := Lib.hid hC1
  clear hf1 B1 B2 HW HF hC1 HC
  have hn0 : ((nn : Int) == 0) = decide (nn = 0) := by rw [Bool.eq_iff_iff]; simp
  have hv0 : ((vl : Int) == 0) = decide (vl = 0) := by rw [Bool.eq_iff_iff]; simp
  cases wr
  · go_wp2_with fail
    refine HC1.out.mono ?_
    rintro e w2 ⟨rfl, rfl⟩
    go_wp2_with fail
    go_quiet (fail)
    go_wp2_with fail
    all_goals
      go_ret
      refine ⟨ret_bool ?_, HF1.out.drewN _⟩
      rw [HD.out]
      clear HD HC1 HF1 p0 p1 p2 p3 q1
      go_light
      unfold rOp
      first | (simp_all; done) | (simp_all; intros; omega)
  · go_wp2_with fail
    go_quiet (fail)
    go_wp2_with fail
    all_goals
      go_ret
      refine ⟨ret_bool ?_, HF1.out.drewN _⟩
      rw [HD.out]
      clear HD HC1 HF1 p0 p1 p2 p3 q1
      go_light
      unfold rOp
      first | (simp_all; done) | (simp_all; intros; omega)
end Go.Proofs.Ytakbjjohfcgaoaa
