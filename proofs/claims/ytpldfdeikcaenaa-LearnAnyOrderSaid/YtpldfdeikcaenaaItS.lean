/- The iterator of the program's Chosen at string: behind and All; what a range over it tells. Conditions: places are numbers of type int; a round keeps the memory of what is known and the closure's two boxes. -/
import Derived.RangeFuncNested
import Derived.RangeFuncBound
import Derived.RangeFuncCalls
import Derived.RangeFuncLeaves
import Derived.Shelf.Abstract
import Derived.Shelf.RegionOpen
import Derived.WalkKit
import Derived.OwnWalkIn
import Derived.TacticsInMore
import Derived.LoopNIn
import Derived.LoopIn
import Derived.IntWalk
import Derived.BigGuardIn
import Derived.Test.YtpldfdeikcaenaaChS
namespace Go.Proofs.Ytpldfdeikcaenaa
open Go.RowKit Go.Shelf Go.Maps
attribute [local go_sem] Oper.semAt_some

/-- the blocks of K lie as they lay. -/
def Keep (K : Nat → Prop) (W W' : World) : Prop := ∀ k, K k → W'.heap[k]? = W.heap[k]?
theorem Keep.t {K : Nat → Prop} {A B C : World} (h : Keep K A B) (k : Keep K B C) : Keep K A C := fun i hi => (k i hi).trans (h i hi)
theorem Keep.b {K : Nat → Prop} {w : World} (hK : ∀ k, K k → k < w.heap.size) (W : World) (l : Nat) (o o' : Obj) (hl : w.heap.size ≤ l) (_ : W.heap[l]? = some o) (_ : o.isCells = false) (_ : o.isWalk = false) : Keep K W (W.putObj l o') :=
  fun i hi => World.putObj_heap_other (by have := hK i hi; omega)
theorem Keep.cell {K : Nat → Prop} {W W' : World} (h : Keep K W W') {p : Addr} (hp : K p.block) : W'.cell? p = W.cell? p := World.cell?_of_block (h _ hp)
theorem ChS.kept {K : Nat → Prop} {W W' : World} {B gc bm s : Nat} {m : Int → Option ByteArray} (h : ChS W B gc bm s m) (hk : Keep K W W') (h1 : K gc) (h2 : K bm) : ChS W' B gc bm s m := by
  refine ⟨(hk _ h1).trans h.bk, ?_, h.dom, h.b1, h.b2⟩
  obtain ⟨D, ⟨es, clock, hb, r⟩, q⟩ := h.km
  exact ⟨D, ⟨es, clock, (hk _ h2).trans hb, r⟩, q⟩

theorem skip_wide {n : Nat} {P : Program} {ops : Array Oper} {Q : Exit → Act → World → Prop} {a : Act} {w : World} {rest : List Oper} {o : Oper}
    (hw : Region.wanted o (yielded ops a.tmps) = false) (h : wpListIn Fence.wide n P ops Q rest (a.put o.dst undef) w) : wpListIn Fence.wide n P ops Q (o :: rest) a w := by
  simp only [wpListIn, hw]
  exact ⟨fun f _ => trivial, h⟩
/-- a place with its value, as a round has it. -/
abbrev PlS (m : Int → Option ByteArray) := { p : Int × ByteArray // m p.1 = some p.2 }

set_option maxRecDepth 100000 in
theorem behindS_any (w : World) (gc : Nat) (a : Int) :
    Calls Try.prog 22 #[.pointer (some ⟨gc, 0, none⟩), .int .i64 a] w fun e w' => e = .returned (.func (.func 25) #[] #[.pointer (some ⟨w.heap.size + 1, 0, none⟩), .pointer (some ⟨w.heap.size, 0, none⟩)]) ∧ w' = (w.alloc (.cells #[.pointer (some ⟨gc, 0, none⟩)] 24)).alloc (.cells #[.int .i64 a] 3) := by
  go_enter Try.func22, Try.ntmps22
  go_wp2_with fail
  go_ret
  exact ⟨by simp, rfl⟩

set_option maxRecDepth 100000 in
theorem allS_any (w : World) (gc : Nat) :
    Calls Try.prog 17 #[.pointer (some ⟨gc, 0, none⟩)] w fun e w' => e = .returned (.func (.func 25) #[] #[.pointer (some ⟨w.heap.size + 1, 0, none⟩), .pointer (some ⟨w.heap.size, 0, none⟩)]) ∧ w' = (w.alloc (.cells #[.pointer (some ⟨gc, 0, none⟩)] 24)).alloc (.cells #[.int .i64 0] 3) := by
  have HK := Lib.hid (behindS_any w gc 0)
  go_enter Try.func17, Try.ntmps17
  go_wp2_with fail
  refine HK.out.mono ?_
  rintro e w1 ⟨rfl, hw1⟩
  have HW := Lib.hid hw1
  clear hw1 HK
  go_wp2_with fail
  go_ret
  exact ⟨rfl, HW.out⟩

set_option maxRecDepth 100000 in
set_option maxHeartbeats 2000000 in
theorem behind1S_in (n l b1 b2 : Nat) (hn : 1 ≤ n) (K : Nat → Prop) (B gc bm s : Nat) (m : Int → Option ByteArray) (a : Int) (ha : wf64 a) (h1 : K b1) (h2 : K b2) (hg : K gc) (hb : K bm) (BB : Nat) (J Jx : List (PlS m) → World → Prop)
    (hY : ∀ pre x W, J pre W → pre.length < 64 → YieldAt Fence.wide (n - 1) Try.prog l #[.int .i64 x.1.1, evS x.1.2] W fun e W' =>
      (e = .returned (.bool true) ∧ J (pre ++ [x]) W' ∧ Keep K W W') ∨ (e = .returned (.bool false) ∧ Jx (pre ++ [x]) W'))
    (W : World) (hW : ChS W B gc bm s m) (hB1 : W.cell? ⟨b1, 0, none⟩ = some (.int .i64 a)) (hB2 : W.cell? ⟨b2, 0, none⟩ = some (.pointer (some ⟨gc, 0, none⟩))) (h0 : J [] W) :
    CallsIn Fence.wide n Try.prog 25 #[.func (.yield l) #[] #[], .pointer (some ⟨b1, 0, none⟩), .pointer (some ⟨b2, 0, none⟩)] W fun e W' => (∃ v, e = .returned v) ∧
      ((∃ ys, Whole m a (ys.map (·.1)) ∧ J ys W') ∨ (∃ pre, Told m a (pre.map (·.1)) ∧ Jx pre W')) := by
  have HY := Lib.hid hY
  have HC := Lib.hid hW
  have HA := Lib.hid ha
  clear hY hW ha
  refine callsIn_of_wp Try.func25 rfl trivial ?_ rfl
  simp only [Try.ntmps25, List.size_toArray, List.length_cons, List.length_nil, Nat.reduceAdd, Nat.reduceSub, Array.replicate_succ, Array.replicate_zero, List.push_toArray, List.append_toArray, List.nil_append, List.cons_append]
  gi_wp2
  gi_loopw [4] (fun i wr => ∃ (pre : List (PlS m)), i = .int .i64 (a + pre.length) ∧ Hid (J pre wr ∧ Keep K W wr ∧ Told m a (pre.map (·.1)) ∧ pre.length ≤ 64))
    (fun i _ => (a + 100 - intOf i).toNat)
  case atStart => exact ⟨[], by simp, h0, fun _ _ => rfl, Told.nil _ _, Nat.zero_le _⟩
  case round =>
    obtain ⟨pre, rfl, HX⟩ := hrel
    have hx2 : wr.cell? ⟨b2, 0, none⟩ = some (.pointer (some ⟨gc, 0, none⟩)) := (HX.out.2.1.cell (p := ⟨b2, 0, none⟩) h2).trans hB2
    have HCR : Hid (ChS wr B gc bm s m) := ChS.kept HC.out HX.out.2.1 hg hb
    have HWF : Hid (wf64 (a + pre.length)) := by
      show wf64 _
      rcases Nat.eq_zero_or_pos pre.length with e | e
      · rw [e]; simpa using HA.out
      · have := (HX.out.2.2.1.len HC.out.dom).2 (by intro e'; rw [List.map_eq_nil_iff] at e'; rw [e'] at e; cases e)
        rw [List.length_map] at this
        exact wf64_of (by omega)
    have HG := Lib.hid (getS_any wr B gc bm s m HCR.out (a + pre.length) HWF.out)
    obtain ⟨o, ho⟩ : ∃ o, o = m (a + pre.length) := ⟨_, rfl⟩
    rw [← ho] at HG
    have HO := Lib.hid ho
    clear ho
    obtain ⟨sl, hsl⟩ : ∃ sl, sl = a + (pre.length : Int) := ⟨_, rfl⟩
    have HSL := Lib.hid hsl
    rw [← hsl] at HG HWF HO ⊢
    clear hsl
    cases o with
    | none =>
      gi_wp2
      refine ⟨trivial, (callsIn_wide.2 HG.out).mono ?_⟩
      rintro e w1 ⟨rfl, hw1⟩
      subst hw1
      simp only [Option.map_none, Option.getD_none, Option.isSome_none]
      gi_wp2_with (first | (refine skip_wide (by rfl) ?_))
      refine bodyPost_ret (results_none rfl _ _ _) rfl ?_
      refine ⟨⟨_, rfl⟩, .inl ⟨pre, ⟨HX.out.2.2.1, ?_⟩, HX.out.1⟩⟩
      rw [List.length_map, ← HSL.out]
      exact HO.out.symm
    | some u =>
      have HDM := Lib.hid (HC.out.dom sl (by rw [← HO.out]; exact fun e => by cases e))
      have HLT : Hid (pre.length < 64) := by
        show _ < _
        have h := HX.out.2.2.1.snoc (v := u) (by rw [List.length_map, ← HSL.out]; exact HO.out.symm)
        have := (h.len HC.out.dom).1
        rw [List.length_append, List.length_map, List.length_singleton] at this
        omega
      have HYK := Lib.hid (HY.out pre ⟨(sl, u), HO.out.symm⟩ wr HX.out.1 HLT.out)
      have HT1 : Hid (Told m a ((pre ++ [⟨(sl, u), HO.out.symm⟩] : List (PlS m)).map (·.1))) := by
        show Told _ _ _
        rw [List.map_append, List.map_cons, List.map_nil]
        have h := HX.out.2.2.1.snoc (v := u) (by rw [List.length_map, ← HSL.out]; exact HO.out.symm)
        rw [List.length_map, ← HSL.out] at h
        exact h
      unfold evS at HYK HG
      dsimp only at HYK HG
      gi_wp2
      refine ⟨trivial, (callsIn_wide.2 HG.out).mono ?_⟩
      rintro e w1 ⟨rfl, hw1⟩
      subst hw1
      simp only [Option.map_some, Option.getD_some, Option.isSome_some]
      gi_wp2
      obtain ⟨fn, tmps, assign, body, hy, hR⟩ := HYK.out
      rw [hy]
      gi_wp2
      refine hR.mono ?_
      rintro e W3 (⟨rfl, hJ3, hk3⟩ | ⟨rfl, hJx3⟩)
      · have HJ3 := Lib.hid hJ3
        have HK3 : Hid (Keep K W W3) := HX.out.2.1.t hk3
        clear hJ3 hk3 hy hR
        have hwr : IntKind.i64.wrap (sl + 1) = sl + 1 := by have := HDM.out; exact IntWalk.i64_in _ (by omega)
        gi_wp2
        go_roundw
        case rel => exact ⟨pre ++ [⟨(sl, u), HO.out.symm⟩], by rw [List.length_append, List.length_singleton, HSL.out]; congr 1; omega, HJ3.out, HK3.out, HT1.out, by have := HLT.out; rw [List.length_append, List.length_singleton]; omega⟩
        case measure =>
          have h1 := HSL.out
          have h2 := HLT.out
          simp [intOf]; omega
      · gi_wp2
        refine bodyPost_ret (results_none rfl _ _ _) rfl ?_
        exact ⟨⟨_, rfl⟩, .inr ⟨_, HT1.out, hJx3⟩⟩
end Go.Proofs.Ytpldfdeikcaenaa
