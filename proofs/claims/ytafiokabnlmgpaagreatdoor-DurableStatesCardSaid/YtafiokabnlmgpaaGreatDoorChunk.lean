/- slices.Chunk at bytes, by 1024: the parts of a slice, one behind the other. Conditions: lengths; a round keeps the slice's memory and the closure's two boxes. -/
import Derived.RangeFuncNested
import Derived.RangeFuncBound
import Derived.RangeFuncCalls
import Derived.RangeFuncLeaves
import Derived.Shelf.Abstract
import Derived.Shelf.RegionOpen
import Derived.WalkKit
import Derived.OwnWalkIn
import Derived.TacticsInMore
import Derived.LoopNIn
import Derived.LoopIn
import Derived.IntWalk
import Derived.Sort.BigQuietIn
import Derived.Sort.QuietTacIn
import Derived.Test.YtafiokabnlmgpaaGreatDoorSnapP
import Derived.Test.YtafiokabnlmgpaaGreatDoorFrame
namespace Go.Proofs.YtafiokabnlmgpaaGreatDoor
open Go.RowKit Go.Shelf
attribute [local go_sem] Oper.semAt_some

/-- the blocks of K lie as they lay. -/
def Keep (K : Nat → Prop) (W W' : World) : Prop := ∀ k, K k → W'.heap[k]? = W.heap[k]?
theorem Keep.t {K : Nat → Prop} {A B C : World} (h : Keep K A B) (k : Keep K B C) : Keep K A C := fun i hi => (k i hi).trans (h i hi)
theorem Keep.b {K : Nat → Prop} {w : World} (hK : ∀ k, K k → k < w.heap.size) (W : World) (l : Nat) (o o' : Obj) (hl : w.heap.size ≤ l) (_ : W.heap[l]? = some o) (_ : o.isCells = false) (_ : o.isWalk = false) : Keep K W (W.putObj l o') :=
  fun i hi => World.putObj_heap_other (by have := hK i hi; omega)
theorem Keep.cell {K : Nat → Prop} {W W' : World} (h : Keep K W W') {p : Addr} (hp : K p.block) : W'.cell? p = W.cell? p := World.cell?_of_block (h _ hp)
/-- a part of bytes as a round has it. -/
abbrev PartOf (w : World) := { p : Prt // Part w p ∧ p.2.2.length ≤ 1024 }

set_option maxRecDepth 100000 in
theorem chunk_any (w : World) (A : Option Addr) (n c : Nat) :
    Calls Tryz.prog 133 #[.slice A n c, .int .i64 1024] w fun e w' => e = .returned (.func (.func 156) #[] #[.pointer (some ⟨w.heap.size, 0, none⟩), .pointer (some ⟨w.heap.size + 1, 0, none⟩)]) ∧ w' = (w.alloc (.cells #[.slice A n c] 55)).alloc (.cells #[.int .i64 1024] 3) := by
  go_enter Tryz.func133, Tryz.ntmps133
  go_wp2_with fail
  go_ret
  exact ⟨by simp, rfl⟩

set_option maxRecDepth 100000 in
set_option maxHeartbeats 2000000 in
theorem chunk1_in (n l b1 b2 : Nat) (hn : 1 ≤ n) (K : Nat → Prop) (w : World) (A : Option Addr) (c : Nat) (d : Bs) (h1 : K b1) (h2 : K b2) (hp : Part w (A, c, d)) (hdc : d.length ≤ c) (hd : d.length ≤ 1000000000) (B : Nat) (J Jx : List (PartOf w) → World → Prop)
    (hY : ∀ pre x W, J pre W → pre.length < d.length → YieldAt Fence.wide (n - 1) Tryz.prog l #[sl x.1] W fun e W' =>
      (e = .returned (.bool true) ∧ J (pre ++ [x]) W' ∧ Keep K W W') ∨ (e = .returned (.bool false) ∧ Jx (pre ++ [x]) W'))
    (hJ : AbidesFrom B J) (W : World) (hB1 : W.cell? ⟨b1, 0, none⟩ = some (.slice A d.length c)) (hB2 : W.cell? ⟨b2, 0, none⟩ = some (.int .i64 1024)) (h0 : J [] W) :
    CallsIn Fence.wide n Tryz.prog 156 #[.func (.yield l) #[] #[], .pointer (some ⟨b1, 0, none⟩), .pointer (some ⟨b2, 0, none⟩)] W fun e W' => (∃ v, e = .returned v) ∧
      ((∃ ys, ys.map (·.1.2.2) = chunks d ∧ J ys W') ∨ (∃ pre, True ∧ Jx pre W')) := by
  have HY := Lib.hid hY
  have HP := Lib.hid hp
  clear hY hp
  refine callsIn_of_wp Tryz.func156 rfl trivial ?_ rfl
  simp only [Tryz.ntmps156, List.size_toArray, List.length_cons, List.length_nil, Nat.reduceAdd, Nat.reduceSub, Array.replicate_succ, Array.replicate_zero, List.push_toArray, List.append_toArray, List.nil_append, List.cons_append]
  gi_wp2
  gi_loopw [4] (fun i wr => ∃ (k : Nat) (pre : List (PartOf w)), k ≤ d.length + 1024 ∧ i = .int .i64 k ∧ Hid (J pre wr ∧ Keep K W wr ∧ pre.map (·.1.2.2) = chunks (d.take k) ∧ k % 1024 = 0 ∧ pre.length * 1024 = k))
    (fun i _ => d.length + 1024 - (intOf i).toNat)
  case atStart => exact ⟨0, [], Nat.zero_le _, rfl, h0, fun _ _ => rfl, by rw [List.take_zero, chunks_nil]; rfl, rfl, rfl⟩
  case round =>
    obtain ⟨k, pre, hk, rfl, HX⟩ := hrel
    have hx1 : wr.cell? ⟨b1, 0, none⟩ = some (.slice A d.length c) := (HX.out.2.1.cell (p := ⟨b1, 0, none⟩) h1).trans hB1
    have hx2 : wr.cell? ⟨b2, 0, none⟩ = some (.int .i64 1024) := (HX.out.2.1.cell (p := ⟨b2, 0, none⟩) h2).trans hB2
    by_cases hlt : k < d.length
    · obtain ⟨b, o, rfl, _⟩ := HP.out.1 (by rw [cb_length]; show 0 < d.length; omega)
      have f1 : (0 : Int) ≤ (k : Int) := by omega
      have f2 : (k : Int) ≤ (d.length : Int) := by omega
      have f3 : (d.length : Int) ≤ (c : Int) := by omega
      obtain ⟨m, hm⟩ : ∃ m, m = min 1024 (d.length - k) := ⟨_, rfl⟩
      have hml : ((d.drop k).take 1024).length = m := by rw [List.length_take, List.length_drop, hm]
      have HM := Lib.hid hm
      have HML := Lib.hid hml
      have HPX : Hid (Part w (some ⟨b, o + k, none⟩, m, (d.drop k).take 1024) ∧ ((d.drop k).take 1024).length ≤ 1024) := by
        refine ⟨⟨fun hpos => ⟨b, o + k, rfl, fun j v hv => ?_⟩, fun h => by cases h⟩, by rw [hml, hm]; omega⟩
        obtain ⟨b', o', e, hcell⟩ := HP.out.1 (by rw [cb_length]; show 0 < d.length; omega)
        injection e with e
        injection e with ea eb
        subst ea eb
        dsimp only at hv
        rw [cb_take, cb_drop, List.getElem?_take] at hv
        split at hv
        · rw [List.getElem?_drop] at hv
          rw [Nat.add_assoc]
          exact hcell _ _ hv
        · cases hv
      by_cases h9 : 1024 ≤ d.length - k
      · have h9' : (1024 : Int) ≤ ((d.length - k : Nat) : Int) := by omega
        have hmin : min (1024 : Int) ((d.length - k : Nat) : Int) = 1024 := by omega
        have HYK : Hid (∀ nq, YieldAt Fence.wide (n - 1) Tryz.prog l #[Value.slice (some ⟨b, o + k, none⟩) (1024) (1024)] (wr.drewN nq) fun e W' => (e = .returned (.bool true) ∧ J (pre ++ [⟨(some ⟨b, o + k, none⟩, m, (d.drop k).take 1024), HPX.out⟩]) W' ∧ Keep K (wr.drewN nq) W') ∨ (e = .returned (.bool false) ∧ Jx (pre ++ [⟨(some ⟨b, o + k, none⟩, m, (d.drop k).take 1024), HPX.out⟩]) W')) := fun nq => by
          have h := HY.out pre ⟨(some ⟨b, o + k, none⟩, m, (d.drop k).take 1024), HPX.out⟩ (wr.drewN nq) (hJ _ _ _ none HX.out.1 ⟨rfl, rfl, rfl, Nat.le_refl _, fun _ _ _ => rfl⟩ fun r e => by cases e) (by have := HX.out.2.2.2.2; omega)
          have e : sl (some ⟨b, o + k, none⟩, m, (d.drop k).take 1024) = Value.slice (some ⟨b, o + k, none⟩) (1024) (1024) := by
            show Value.slice _ ((d.drop k).take 1024).length m = _
            rw [HML.out, show 1024 = m by have := HM.out; omega]
          rw [← e]
          exact h
        clear hm hml
        gi_wp2
        gi_quiet (fail)
        obtain ⟨fn, tmps, assign, body, hy, hR⟩ := HYK.out nq
        gi_wp2
        refine hR.mono ?_
        rintro e W3 (⟨rfl, hJ3, hk3⟩ | ⟨rfl, hJx3⟩)
        · have hx3 : W3.cell? ⟨b2, 0, none⟩ = some (.int .i64 1024) := (hk3.cell (p := ⟨b2, 0, none⟩) h2).trans hx2
          have HJ3 := Lib.hid hJ3
          have HK3 : Hid (Keep K W W3) := HX.out.2.1.t (Keep.t (fun _ _ => rfl) hk3)
          clear hJ3 hk3
          gi_wp2
          go_roundw
          case rel => exact ⟨k + 1024, pre ++ [⟨(some ⟨b, o + k, none⟩, m, (d.drop k).take 1024), HPX.out⟩], by omega, by go_num, HJ3.out, HK3.out, by rw [List.map_append, HX.out.2.2.1]; exact chunks_take d k hlt HX.out.2.2.2.1, by have := HX.out.2.2.2.1; omega, by have := HX.out.2.2.2.2; rw [List.length_append]; simp; omega⟩
          case measure => simp [intOf]; omega
        · gi_wp2
          refine bodyPost_ret (results_none rfl _ _ _) rfl ?_
          exact ⟨⟨_, rfl⟩, .inr ⟨_, trivial, hJx3⟩⟩
      · have h9' : ¬ (1024 : Int) ≤ ((d.length - k : Nat) : Int) := by omega
        have hmin : min (1024 : Int) ((d.length - k : Nat) : Int) = ((d.length - k : Nat) : Int) := by omega
        have HYK : Hid (∀ nq, YieldAt Fence.wide (n - 1) Tryz.prog l #[Value.slice (some ⟨b, o + k, none⟩) (d.length - k) (d.length - k)] (wr.drewN nq) fun e W' => (e = .returned (.bool true) ∧ J (pre ++ [⟨(some ⟨b, o + k, none⟩, m, (d.drop k).take 1024), HPX.out⟩]) W' ∧ Keep K (wr.drewN nq) W') ∨ (e = .returned (.bool false) ∧ Jx (pre ++ [⟨(some ⟨b, o + k, none⟩, m, (d.drop k).take 1024), HPX.out⟩]) W')) := fun nq => by
          have h := HY.out pre ⟨(some ⟨b, o + k, none⟩, m, (d.drop k).take 1024), HPX.out⟩ (wr.drewN nq) (hJ _ _ _ none HX.out.1 ⟨rfl, rfl, rfl, Nat.le_refl _, fun _ _ _ => rfl⟩ fun r e => by cases e) (by have := HX.out.2.2.2.2; omega)
          have e : sl (some ⟨b, o + k, none⟩, m, (d.drop k).take 1024) = Value.slice (some ⟨b, o + k, none⟩) (d.length - k) (d.length - k) := by
            show Value.slice _ ((d.drop k).take 1024).length m = _
            rw [HML.out, show d.length - k = m by have := HM.out; omega]
          rw [← e]
          exact h
        clear hm hml
        gi_wp2
        gi_quiet (fail)
        obtain ⟨fn, tmps, assign, body, hy, hR⟩ := HYK.out nq
        gi_wp2
        refine hR.mono ?_
        rintro e W3 (⟨rfl, hJ3, hk3⟩ | ⟨rfl, hJx3⟩)
        · have hx3 : W3.cell? ⟨b2, 0, none⟩ = some (.int .i64 1024) := (hk3.cell (p := ⟨b2, 0, none⟩) h2).trans hx2
          have HJ3 := Lib.hid hJ3
          have HK3 : Hid (Keep K W W3) := HX.out.2.1.t (Keep.t (fun _ _ => rfl) hk3)
          clear hJ3 hk3
          gi_wp2
          go_roundw
          case rel => exact ⟨k + 1024, pre ++ [⟨(some ⟨b, o + k, none⟩, m, (d.drop k).take 1024), HPX.out⟩], by omega, by go_num, HJ3.out, HK3.out, by rw [List.map_append, HX.out.2.2.1]; exact chunks_take d k hlt HX.out.2.2.2.1, by have := HX.out.2.2.2.1; omega, by have := HX.out.2.2.2.2; rw [List.length_append]; simp; omega⟩
          case measure => simp [intOf]; omega
        · gi_wp2
          refine bodyPost_ret (results_none rfl _ _ _) rfl ?_
          exact ⟨⟨_, rfl⟩, .inr ⟨_, trivial, hJx3⟩⟩
    · gi_wp2
      go_end0
      refine ⟨⟨_, rfl⟩, .inl ⟨pre, ?_, HX.out.1⟩⟩
      rw [HX.out.2.2.1, List.take_of_length_le (by omega)]
end Go.Proofs.YtafiokabnlmgpaaGreatDoor
