/- Nets as the world holds them: New, Len, has. Conditions: at most 4000 parcels. -/
import Derived.Test.YtdfmoijomnjdiaaWd
namespace Go.Proofs.Ytdfmoijomnjdiaa
open Go.RowKit

/-- a row of bytes of one's own, in blocks of O. -/
def PartO (O : Nat → Prop) (W : World) (p : Prt) : Prop := W.ownsRow 0 5 1 (sl p) p.2.2.length (cb p.2.2) ∧ ∀ k, (sl p).ownBlock = some k → O k
theorem PartO.fr {O C : Nat → Prop} {W W' : World} {p : Prt} (h : PartO O W p) (hf : Fr C W W') (hn : ∀ k, O k → ¬ C k) : PartO O W' p := ⟨own_fr h.1 hf (fun k hk => hn k (h.2 k hk)), h.2⟩
theorem PartO.mono {O O' : Nat → Prop} {W : World} {p : Prt} (h : PartO O W p) (hO : ∀ k, O k → O' k) : PartO O' W p := ⟨h.1, fun k hk => hO k (h.2 k hk)⟩
/-- its blocks, and those made between two worlds. -/
def Plus (O : Nat → Prop) (W W' : World) : Nat → Prop := fun k => O k ∨ (W.heap.size ≤ k ∧ k < W'.heap.size)

/-- a parcel, and where its data lie. -/
structure Pc where
  src : Int
  dst : Int
  ep : Int
  pe : Int
  sq : Int
  ak : Int
  d : Prt
def pcc (p : Pc) : List Value := [.int .i64 p.src, .int .i64 p.dst, .int .u64 p.ep, .int .u64 p.pe, .int .u64 p.sq, .int .u64 p.ak, sl p.d]
def pca (p : Pc) : Array Value := #[.int .i64 p.src, .int .i64 p.dst, .int .u64 p.ep, .int .u64 p.pe, .int .u64 p.sq, .int .u64 p.ak, .slice p.d.1 p.d.2.2.length p.d.2.1]
def pcz : Array Value := #[.int .i64 0, .int .i64 0, .int .u64 0, .int .u64 0, .int .u64 0, .int .u64 0, .slice none 0 0]
def pcsc (xs : List Pc) : List Value := xs.flatMap pcc
theorem pcc_len (p : Pc) : (pcc p).length = 7 := rfl
theorem pcsc_len (xs : List Pc) : (pcsc xs).length = xs.length * 7 := cat_len pcc 7 pcc_len xs
theorem pcsc_append (xs ys : List Pc) : pcsc (xs ++ ys) = pcsc xs ++ pcsc ys := List.flatMap_append ..
theorem pcsc_one (xs : List Pc) : ∀ u ∈ pcsc xs, u.oneCell' = true := by
  intro u hu
  simp only [pcsc, List.mem_flatMap, pcc, List.mem_cons, List.not_mem_nil, or_false] at hu
  obtain ⟨x, _, rfl | rfl | rfl | rfl | rfl | rfl | rfl⟩ := hu <;> rfl
theorem pcsc_take (xs : List Pc) (k : Nat) : (pcsc xs).take (k * 7) = pcsc (xs.take k) := by
  induction xs generalizing k with
  | nil => simp [pcsc]
  | cons x t ih =>
    cases k with
    | zero => simp [pcsc]
    | succ k =>
      show (pcc x ++ pcsc t).take ((k + 1) * 7) = pcc x ++ pcsc (t.take k)
      rw [show (k + 1) * 7 = (pcc x).length + k * 7 by rw [pcc_len]; omega, List.take_length_add_append, ih]
theorem pcsc_drop (xs : List Pc) (k : Nat) : (pcsc xs).drop (k * 7) = pcsc (xs.drop k) := by
  induction xs generalizing k with
  | nil => simp [pcsc]
  | cons x t ih =>
    cases k with
    | zero => simp [pcsc]
    | succ k =>
      show (pcc x ++ pcsc t).drop ((k + 1) * 7) = pcsc (t.drop k)
      rw [show (k + 1) * 7 = (pcc x).length + k * 7 by rw [pcc_len]; omega, List.drop_length_add_append, ih]
theorem pcsc_erase (xs : List Pc) (k : Nat) : (pcsc xs).take (k * 7) ++ (pcsc xs).drop ((k + 1) * 7) = pcsc (xs.eraseIdx k) := by
  rw [pcsc_take, pcsc_drop, ← pcsc_append, List.eraseIdx_eq_take_drop_succ]

/-- a net behind g, in blocks of O: its parcels' row, and their data. -/
structure NtIn (O : Nat → Prop) (W : World) (g : Nat) (a : Option Addr) (c : Nat) (ps : List Pc) : Prop where
  bk : Bk W g 51 #[.slice a ps.length c]
  own : W.ownsRow 0 35 7 (.slice a ps.length c) ps.length (pcsc ps)
  parts : ∀ p ∈ ps, PartO O W p.d ∧ p.d.2.2.length ≤ 1000000
  og : O g
  os : ∀ b, (Value.slice a ps.length c).ownBlock = some b → O b
  ol : ∀ k, O k → k < W.heap.size
  few : ps.length ≤ 4000
theorem NtIn.fr {O C : Nat → Prop} {W W' : World} {g : Nat} {a : Option Addr} {c : Nat} {ps : List Pc} (h : NtIn O W g a c ps) (hf : Fr C W W') (hn : ∀ k, O k → ¬ C k) : NtIn O W' g a c ps :=
  ⟨h.bk.fr hf (hn _ h.og), own_fr h.own hf (fun k hk => hn k (h.os k hk)), fun p hp => ⟨(h.parts p hp).1.fr hf hn, (h.parts p hp).2⟩, h.og, h.os, fun k hk => Nat.lt_of_lt_of_le (h.ol k hk) hf.size, h.few⟩
theorem NtIn.nofr {O : Nat → Prop} {W W' : World} {g : Nat} {a : Option Addr} {c : Nat} {ps : List Pc} (h : NtIn O W g a c ps) (hf : Fr NoBlk W W') : NtIn O W' g a c ps := h.fr hf fun _ _ h => h

set_option maxRecDepth 100000 in
theorem new_any (W : World) : Calls Try.prog 7 #[] W fun e W' => ∃ g, e = .returned (.pointer (some ⟨g, 0, none⟩)) ∧ NtIn (fun k => k = g) W' g none 0 [] ∧ Fr NoBlk W W' ∧ W.heap.size ≤ g := by
  have HF : Hid (Fr NoBlk W (W.alloc (.cells #[.slice none 0 0] 51))) := (Fr.refl _ _).alloc _
  have HB : Hid (NtIn (fun k => k = W.heap.size) (W.alloc (.cells #[.slice none 0 0] 51)) W.heap.size none 0 []) :=
    ⟨Bk.new _ _ _, World.ownsRow_nil _ _ _ _, (fun _ h => by cases h), rfl, (fun _ h => by cases h), (fun k hk => by subst hk; simp), Nat.zero_le _⟩
  go_enter Try.func7, Try.ntmps7
  go_wp2_with fail
  go_ret
  exact ⟨_, rfl, HB.out, HF.out, Nat.le_refl _⟩

set_option maxRecDepth 100000 in
theorem len_any (W : World) (O : Nat → Prop) (g : Nat) (a : Option Addr) (c : Nat) (ps : List Pc) (h : NtIn O W g a c ps) : Calls Try.prog 16 #[.pointer (some ⟨g, 0, none⟩)] W fun e W' => e = .returned (.int .i64 (ps.length : Int)) ∧ W = W' := by
  have c0 := h.bk.cell 0
  simp only [List.getElem?_toArray, List.getElem?_cons_zero] at c0
  clear h
  go_enter Try.func16, Try.ntmps16
  go_wp2_with fail
  go_ret
  exact ⟨rfl, rfl⟩
/-- is there a parcel of this number? -/
def hasB (n : Nat) (k : Int) : Bool := decide (0 ≤ k) && decide (k < (n : Int))
theorem hasB_true {n : Nat} {k : Int} (h : hasB n k = true) : ∃ j : Nat, k = (j : Int) ∧ j < n := by
  simp only [hasB, Bool.and_eq_true, decide_eq_true_eq] at h
  exact ⟨k.toNat, by omega, by omega⟩
theorem hasB_nat {n j : Nat} (h : j < n) : hasB n (j : Int) = true := by
  simp only [hasB, Bool.and_eq_true, decide_eq_true_eq]
  omega
set_option maxRecDepth 100000 in
theorem has_any (W : World) (O : Nat → Prop) (g : Nat) (a : Option Addr) (c : Nat) (ps : List Pc) (h : NtIn O W g a c ps) (k : Int) : Calls Try.prog 17 #[.pointer (some ⟨g, 0, none⟩), .int .i64 k] W fun e W' => e = .returned (.bool (hasB ps.length k)) ∧ W = W' := by
  have c0 := h.bk.cell 0
  simp only [List.getElem?_toArray, List.getElem?_cons_zero] at c0
  clear h
  by_cases h0 : 0 ≤ k
  · have e : hasB ps.length k = decide (k < (ps.length : Int)) := by simp [hasB, h0]
    rw [e]
    go_enter Try.func17, Try.ntmps17
    go_wp2_with fail
    go_ret
    exact ⟨rfl, rfl⟩
  · have e : hasB ps.length k = false := by simp [hasB, h0]
    rw [e]
    go_enter Try.func17, Try.ntmps17
    go_wp2_with fail
    go_ret
    exact ⟨rfl, rfl⟩
end Go.Proofs.Ytdfmoijomnjdiaa
