/- Orders as the world holds them: rows of elements of several cells, marks, orders by value. No condition but lengths. -/
import Derived.Test.YtdgjjkmgdjiliaaGreat
namespace Go.Proofs.Ytdgjjkmgdjiliaa
open Go.RowKit

section
variable {α : Type} (f : α → List Value) (k : Nat) (hf : ∀ x, (f x).length = k)
include hf
theorem cat_len (xs : List α) : (xs.flatMap f).length = xs.length * k := by
  induction xs with
  | nil => simp
  | cons x t ih => rw [List.flatMap_cons, List.length_append, hf, ih, List.length_cons, Nat.succ_mul, Nat.add_comm]
theorem cat_get (xs : List α) (i : Nat) (x : α) (h : xs[i]? = some x) (j : Nat) (hj : j < k) : (xs.flatMap f)[i * k + j]? = (f x)[j]? := by
  induction xs generalizing i with
  | nil => cases h
  | cons y t ih =>
    rw [List.flatMap_cons]
    cases i with
    | zero =>
      injection h with h
      subst h
      rw [List.getElem?_append_left (by rw [hf]; omega), Nat.zero_mul, Nat.zero_add]
    | succ i =>
      rw [List.getElem?_append_right (by rw [hf, Nat.succ_mul]; omega), hf, show (i + 1) * k + j - k = i * k + j from by rw [Nat.succ_mul]; omega]
      exact ih i h
theorem Rd.cat {w : World} {A : Option Addr} {xs : List α} (h : Rd w A (xs.flatMap f)) (hk : 0 < k) {i : Nat} {x : α} (hx : xs[i]? = some x) :
    ∃ b o, A = some ⟨b, o, none⟩ ∧ ∀ j v, (f x)[j]? = some v → w.cell? ⟨b, o + i * k + j, none⟩ = some v := by
  have hi := (List.getElem?_eq_some_iff.1 hx).1
  obtain ⟨b, o, rfl, hc⟩ := h (by rw [cat_len f k hf]; exact Nat.mul_pos (by omega) hk)
  refine ⟨b, o, rfl, fun j v hv => ?_⟩
  have hj := (List.getElem?_eq_some_iff.1 hv).1
  rw [hf] at hj
  have := hc (i * k + j) v ((cat_get f k hf xs i x hx j hj).trans hv)
  rwa [← Nat.add_assoc] at this
end

structure Mk where
  key : Bs
  home : Int
  count : Nat
def mkc (m : Mk) : List Value := [st m.key, .int .i64 m.home, .int .u64 (m.count : Int)]
def mkv (m : Mk) : Value := .agg #[st m.key, .int .i64 m.home, .int .u64 (m.count : Int)]
def mksc (xs : List Mk) : List Value := xs.flatMap mkc
theorem mkc_len (m : Mk) : (mkc m).length = 3 := rfl
theorem mksc_len (xs : List Mk) : (mksc xs).length = xs.length * 3 := cat_len mkc 3 mkc_len xs
theorem mksc_append (xs ys : List Mk) : mksc (xs ++ ys) = mksc xs ++ mksc ys := List.flatMap_append ..
theorem mksc_one (xs : List Mk) : ∀ u ∈ mksc xs, u.oneCell' = true := by
  intro u hu
  simp only [mksc, List.mem_flatMap, mkc, List.mem_cons, List.not_mem_nil, or_false] at hu
  obtain ⟨x, _, rfl | rfl | rfl⟩ := hu <;> rfl
theorem Rd.mark {w : World} {A : Option Addr} {xs : List Mk} (h : Rd w A (mksc xs)) {i : Nat} {m : Mk} (hm : xs[i]? = some m) :
    ∃ b o, A = some ⟨b, o, none⟩ ∧ w.cell? ⟨b, o + i * 3, none⟩ = some (.string (bstr m.key)) ∧ w.cell? ⟨b, o + i * 3 + 1, none⟩ = some (.int .i64 m.home) ∧ w.cell? ⟨b, o + i * 3 + 2, none⟩ = some (.int .u64 (m.count : Int)) := by
  obtain ⟨b, o, rfl, hc⟩ := Rd.cat mkc 3 mkc_len h (by omega) hm
  exact ⟨b, o, rfl, hc 0 _ rfl, hc 1 _ rfl, hc 2 _ rfl⟩

/-- an order by value: its tag, its transaction, its marks with where they lie and their room. -/
structure Od where
  node : Int
  epoch : Nat
  seq : Nat
  tr : Int
  t : Tx
  ma : Option Addr
  mc : Nat
  marks : List Mk
def oda (o : Od) : Array Value := #[.int .i64 o.node, .int .u64 (o.epoch : Int), .int .u64 (o.seq : Int), .int .i64 o.tr,
  .int .i64 o.t.kind, .slice o.t.ra o.t.reads.length o.t.rc, .slice o.t.wa o.t.writes.length o.t.wc, .slice o.t.oa o.t.ops.length o.t.oc, .int .i64 o.t.to, .slice o.ma o.marks.length o.mc]
def odv (o : Od) : Value := .agg (oda o)
def two64 : Nat := 18446744073709551616
structure OdIn (w : World) (o : Od) : Prop where
  txn : TxIn w o.t
  marks : Rd w o.ma (mksc o.marks)
  ml : o.marks.length ≤ o.mc ∧ o.mc ≤ maxLen ∧ (o.ma = none → o.mc = 0)
  keys : ∀ m ∈ o.marks, m.key.length ≤ maxLen
  nums : o.epoch < two64 ∧ o.seq < two64 ∧ ∀ m ∈ o.marks, m.count < two64
theorem OdIn.nofr {w w' : World} {o : Od} (h : OdIn w o) (hf : Fr NoBlk w w') : OdIn w' o := ⟨h.txn.nofr hf, h.marks.nofr hf, h.ml, h.keys, h.nums⟩

theorem Bk.ord {w : World} {g : Nat} {T : TypeId} {o : Od} (h : Bk w g T (oda o)) :
    w.cell? ⟨g, 0, none⟩ = some (.int .i64 o.node) ∧ w.cell? ⟨g, 1, none⟩ = some (.int .u64 (o.epoch : Int)) ∧ w.cell? ⟨g, 2, none⟩ = some (.int .u64 (o.seq : Int)) ∧ w.cell? ⟨g, 3, none⟩ = some (.int .i64 o.tr) ∧
    w.cell? ⟨g, 4, none⟩ = some (.int .i64 o.t.kind) ∧ w.cell? ⟨g, 5, none⟩ = some (.slice o.t.ra o.t.reads.length o.t.rc) ∧ w.cell? ⟨g, 6, none⟩ = some (.slice o.t.wa o.t.writes.length o.t.wc) ∧ w.cell? ⟨g, 7, none⟩ = some (.slice o.t.oa o.t.ops.length o.t.oc) ∧ w.cell? ⟨g, 8, none⟩ = some (.int .i64 o.t.to) ∧
    w.cell? ⟨g, 9, none⟩ = some (.slice o.ma o.marks.length o.mc) :=
  ⟨h.cell 0, h.cell 1, h.cell 2, h.cell 3, h.cell 4, h.cell 5, h.cell 6, h.cell 7, h.cell 8, h.cell 9⟩

structure OSmall (o : Od) : Prop where
  t : Small o.t
  m : o.marks.length ≤ 60
  ks : ∀ m ∈ o.marks, m.key.length ≤ 200
def OGreatPost (o : Od) (e : Ending) : Prop := ∃ b, e = .returned (.bool b) ∧ (b = false → OSmall o)

set_option maxRecDepth 100000 in
set_option maxHeartbeats 2000000 in
theorem ogreat_any (w : World) (o : Od) (ho : OdIn w o) :
    Calls Try.prog 21 #[odv o] w fun e w' => OGreatPost o e ∧ Fr NoBlk w w' := by
  have HF : Hid (Fr NoBlk w (w.alloc (.cells (oda o) 38))) := (Fr.refl _ _).alloc _
  have HB := Lib.hid (Bk.new w 38 (oda o))
  have HO := Lib.hid ho
  have K1 := Lib.hid (great_any _ o.t (ho.txn.nofr HF.out))
  have hml : o.marks.length ≤ 9223372036854775807 := Nat.le_trans ho.ml.1 ho.ml.2.1
  clear ho
  unfold txv txa at K1
  unfold oda at HF K1
  unfold odv oda
  go_enter Try.func21, Try.ntmps21
  go_wp2_with fail
  refine K1.out.mono ?_
  rintro e w1 ⟨⟨b1, rfl, hs1⟩, hf1⟩
  have HF1 := Lib.hid (HF.out.trans hf1)
  have HB1 := Lib.hid (HB.out.fr hf1 (fun h => h))
  have HS1 := Lib.hid hs1
  have c9 : w1.cell? ⟨w.heap.size, 9, none⟩ = some (.slice o.ma o.marks.length o.mc) := HB1.out.cell 9
  clear hf1 hs1 K1 HF HB
  cases b1
  rotate_left
  · go_wp2_with fail
    go_ret
    exact ⟨⟨true, rfl, fun h => by cases h⟩, HF1.out⟩
  have HS2 : Hid (Small o.t) := HS1.out rfl
  clear HS1
  by_cases h6 : 60 < o.marks.length
  · go_wp2_with fail
    go_ret
    exact ⟨⟨true, rfl, fun h => by cases h⟩, HF1.out⟩
  go_wp2_with fail
  go_loop [3] (fun z => ∃ k : Nat, k ≤ o.marks.length ∧ z = .int .i64 k ∧ Hid (∀ j m, j < k → o.marks[j]? = some m → m.key.length ≤ 200)) (fun z => o.marks.length - (intOf z).toNat)
  case atStart => exact ⟨0, by omega, rfl, (fun j m h1 _ => absurd h1 (by omega))⟩
  case round =>
    obtain ⟨k, hk, rfl, HL⟩ := hrel
    by_cases hlt : k < o.marks.length
    · obtain ⟨m, hm⟩ : ∃ m, o.marks[k]? = some m := ⟨_, List.getElem?_eq_getElem hlt⟩
      obtain ⟨b, o', hA, hc1, _, _⟩ := (HO.out.marks.nofr HF1.out).mark hm
      have HMM := Lib.hid hm
      have hmx : m.key.length ≤ 9223372036854775807 := HO.out.keys m (List.mem_of_getElem? hm)
      rw [hA] at c9
      have e4 : (bstr m.key).size = m.key.length := bstr_size m.key
      clear hA hm
      by_cases h2 : 200 < m.key.length
      · go_wp2_with fail
        go_ret
        exact ⟨⟨true, rfl, fun h => by cases h⟩, HF1.out⟩
      · go_wp2_with fail
        go_round
        case rel =>
          refine ⟨k + 1, by omega, by go_num, fun j m' hj hm' => ?_⟩
          by_cases e : j = k
          · subst e
            rw [HMM.out] at hm'
            injection hm' with hm'
            subst hm'
            omega
          · exact HL.out j m' (by omega) hm'
        case measure => simp [intOf]; omega
    · go_wp2_with fail
      go_ret
      refine ⟨⟨false, rfl, fun _ => ⟨HS2.out, by omega, fun m hm => ?_⟩⟩, HF1.out⟩
      obtain ⟨j, hj, rfl⟩ := List.getElem_of_mem hm
      exact HL.out j _ (by omega) (List.getElem?_eq_getElem hj)
end Go.Proofs.Ytdgjjkmgdjiliaa
