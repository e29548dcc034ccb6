/- The walks of a tree with a function that is called for each item: behind, all. Conditions: each round keeps the tree's memory, and what the caller says of memory abides new blocks. -/
import Derived.RangeFuncNested
import Derived.RangeFuncBound
import Derived.RangeFuncCalls
import Derived.RangeFuncLeaves
import Derived.Shelf.Abstract
import Derived.Shelf.RegionOpen
import Derived.WalkKit
import Derived.OwnWalkIn
import Derived.TacticsInMore
import Derived.LoopNIn
import Derived.LoopIn
import Derived.IntWalk
import Derived.BigGuardIn
import Derived.Sort.BigQuietIn
import Derived.Test.YtkdcacajacndmaaN2R
import Derived.Test.YtkdcacajacndmaaP3

namespace Go.Proofs.Ytkdcacajacndmaa
open Go.RowKit Go.Shelf
attribute [local go_sem] Oper.semAt_some
theorem skip_wide {n : Nat} {P : Program} {ops : Array Oper} {Q : Exit → Act → World → Prop} {a : Act} {w : World} {rest : List Oper} {o : Oper}
    (hw : Region.wanted o (yielded ops a.tmps) = false) (h : wpListIn Fence.wide n P ops Q rest (a.put o.dst undef) w) : wpListIn Fence.wide n P ops Q (o :: rest) a w := by
  simp only [wpListIn, hw]
  exact ⟨fun f _ => trivial, h⟩
theorem RoundIn.any_ {m m' : Nat} {P : Program} {l : Nat} {f : FuncId} {tmps : Array Value} {assign body : Code} {w : World} {R : Ending → World → Prop}
    (h : RoundIn Fence.wide m P l f tmps assign body w R) : RoundIn Fence.wide m' P l f tmps assign body w R := ⟨h.1, fun c cs _ => h.2 c cs (room_wide _)⟩
theorem YieldAt.any_ {m m' : Nat} {P : Program} {l : Nat} {args : Array Value} {W : World} {R : Ending → World → Prop} (h : YieldAt Fence.wide m P l args W R) : YieldAt Fence.wide m' P l args W R := by
  obtain ⟨fn, tmps, assign, body, hy, hR⟩ := h
  exact ⟨fn, tmps, assign, body, hy, RoundIn.any_ hR⟩
theorem Keep.b {K : Nat → Prop} {w : World} (hK : ∀ k, K k → k < w.heap.size) (W : World) (l : Nat) (o o' : Obj) (hl : w.heap.size ≤ l) (_ : W.heap[l]? = some o) (_ : o.isCells = false) (_ : o.isWalk = false) : Keep K W (W.putObj l o') :=
  fun i hi => World.putObj_heap_other (by have := hK i hi; omega)
theorem Keep.lt {K : Nat → Prop} {W W' : World} (h : Keep K W W') {b : Nat} (hl : b < W.heap.size) (hb : K b) : b < W'.heap.size := by
  have := h b hb
  rw [Array.getElem?_eq_getElem hl] at this
  exact (Array.getElem?_eq_some_iff.1 this).1
theorem Fr.grow0 {w w' : World} (h : Fr NoBlk w w') : w.grownBy w' none := ⟨h.os, h.tape, h.output, h.size, fun k hk _ => h.block k hk fun e => e⟩
theorem AbidesFrom.nofr {β : Type} {B : Nat} {J : β → World → Prop} (h : AbidesFrom B J) {s : β} {w w' : World} (hs : J s w) (hf : Fr NoBlk w w') : J s w' := h s w w' none hs hf.grow0 fun r e => by cases e
/-- how a walk over T ends. -/
def WalkR (K : Nat → Prop) (J Jx : List ItR → World → Prop) (pre T : List ItR) (W : World) (e : Ending) (W' : World) : Prop :=
  (e = .returned (.bool true) ∧ J (pre ++ T) W' ∧ Keep K W W') ∨ (e = .returned (.bool false) ∧ ∃ q, q <+: T ∧ Jx (pre ++ q) W')
theorem WalkR.from_ {K : Nat → Prop} {J Jx : List ItR → World → Prop} {pre T : List ItR} {W W1 W' : World} {e : Ending} (h : WalkR K J Jx pre T W1 e W') (hk : Keep K W W1) : WalkR K J Jx pre T W e W' := by
  rcases h with ⟨h1, h2, h3⟩ | h
  · exact .inl ⟨h1, h2, hk.t h3⟩
  · exact .inr h
/-- what is known of the rounds. -/
structure RoundsR (l N : Nat) (K : Nat → Prop) (W0 : World) (J Jx : List ItR → World → Prop) (S : ItR → Prop) : Prop where
  y : ∀ m pre x W, J pre W → pre.length < N → S x → YieldAt Fence.wide m Try.prog l #[.string (bstr x.1), .agg #[.bool x.2.has, .slice x.2.va x.2.vn x.2.vc, .int .i64 x.2.home, .int .u64 (x.2.count : Int)]] W fun e W' =>
    (e = .returned (.bool true) ∧ J (pre ++ [x]) W' ∧ Keep K W W') ∨ (e = .returned (.bool false) ∧ Jx (pre ++ [x]) W')
  j : ∃ B, AbidesFrom B J
  k : ∀ b, K b → b < W0.heap.size
theorem RoundsR.nofr {l N : Nat} {K : Nat → Prop} {W0 : World} {J Jx : List ItR → World → Prop} {S : ItR → Prop} (h : RoundsR l N K W0 J Jx S) {pre : List ItR} {W W' : World} (hk : Keep K W0 W) (h0 : J pre W) (hf : Fr NoBlk W W') : J pre W' ∧ Keep K W W' := by
  obtain ⟨B, hB⟩ := h.j
  exact ⟨AbidesFrom.nofr hB h0 hf, hf.keep fun k hb => ⟨hk.lt (h.k k hb) hb, fun e => e⟩⟩
def KidR (l N : Nat) (K : Nat → Prop) (J Jx : List ItR → World → Prop) (W0 : World) (p : Nat) (T : List ItR) : Prop :=
  ∀ m pre W, Keep K W0 W → J pre W → pre.length + T.length ≤ N → CallsIn Fence.wide m Try.prog 61 #[.pointer (some ⟨p, 0, none⟩), .func (.yield l) #[] #[]] W (WalkR K J Jx pre T W)
set_option maxRecDepth 100000 in
set_option maxHeartbeats 4000000 in
theorem behindR_in (l N : Nat) (K : Nat → Prop) (J Jx : List ItR → World → Prop) (W0 : World) {S : ItR → Prop} (HY : Hid (RoundsR l N K W0 J Jx S)) (A : Option Addr) (c : Nat) (xs : List ItR) (hS : ∀ x ∈ xs, S x) (B : Option Addr) (np e : Nat) (L : List (List ItR))
    (hl : xs.length = L.length) (hA : Rd W0 A (itsR xs)) (hKA : 0 < (itsR xs).length → ∀ b, ablk A b → K b) (qs : List Nat) (hB : Rd W0 B (qs.map ptr)) (hKB : 0 < (qs.map ptr).length → ∀ b, ablk B b → K b) (hnp : np = qs.length)
    (hq : (qs = [] ∧ ∀ T ∈ L, T = []) ∨ (qs.length = xs.length + 1 ∧ ∀ (i : Nat) (T : List ItR) (p : Nat), L[i]? = some T → qs[i + 1]? = some p → KidR l N K J Jx W0 p T))
    (hx : xs.length ≤ 100) (n : Nat) (pre : List ItR) (W : World) (hW : Keep K W0 W) (h0 : J pre W) (hN : pre.length + (postW xs L).length ≤ N) :
    CallsIn Fence.wide n Try.prog 73 #[.slice A xs.length c, .slice B np e, .func (.yield l) #[] #[]] W (WalkR K J Jx pre (postW xs L) W) := by
  obtain ⟨k0, hk0⟩ : ∃ k0, k0 = xs.length := ⟨_, rfl⟩
  rw [← hk0] at hx ⊢
  have HL := Lib.hid hl
  have HA := Lib.hid hA
  have HKA := Lib.hid hKA
  have HB := Lib.hid hB
  have HKB := Lib.hid hKB
  have HNP := Lib.hid hnp
  have HQ := Lib.hid hq
  have HW := Lib.hid hW
  have HJ := Lib.hid h0
  have HN := Lib.hid hN
  have HSE := Lib.hid hS
  clear hS
  have HK0 := Lib.hid hk0
  have HNB : Hid (np ≤ 101) := by
    show _ ≤ _
    rcases hq with ⟨h1, _⟩ | ⟨h1, _⟩
    · rw [hnp, h1]; exact Nat.zero_le _
    · rw [hnp, h1]; omega
  clear hl hA hKA hB hKB hnp hq hW h0 hN hk0
  refine callsIn_of_wp Try.func73 rfl trivial ?_ rfl
  simp only [Try.ntmps73, List.size_toArray, List.length_cons, List.length_nil, Nat.reduceAdd, Nat.reduceSub, Array.replicate_succ, Array.replicate_zero, List.push_toArray, List.append_toArray, List.nil_append, List.cons_append]
  gi_wp2
  gi_loopw [11] (fun i wr => ∃ k : Nat, i = .int .i64 (k : Int) ∧ k ≤ k0 ∧ Hid (J (pre ++ postW (xs.take k) (L.take k)) wr ∧ Keep K W wr))
    (fun i _ => (k0 - intOf i).toNat)
  case atStart => exact ⟨0, rfl, Nat.zero_le _, by rw [List.take_zero, List.take_zero]; show J (pre ++ []) W ∧ _; rw [List.append_nil]; exact ⟨HJ.out, Keep.rfl_ _ _⟩⟩
  case round =>
    obtain ⟨k, rfl, hk, HX⟩ := hrel
    by_cases hkk : k < k0
    · have HX1 := Lib.hid HX.out.1
      have HX2 := Lib.hid HX.out.2
      obtain ⟨x, hx1⟩ : ∃ x, xs[k]? = some x := ⟨_, List.getElem?_eq_getElem (by rw [← HK0.out]; exact hkk)⟩
      obtain ⟨T, hT1⟩ : ∃ T, L[k]? = some T := ⟨_, List.getElem?_eq_getElem (by rw [← HL.out, ← HK0.out]; exact hkk)⟩
      have HKW : Hid (Keep K W0 wr) := HW.out.t HX2.out
      obtain ⟨b, o, hAb, d0, d1, d2, d3, d4⟩ := (HA.out.kept HKW.out HKA.out).itR hx1
      subst hAb
      have hpl := postW_len xs L k hx1 hT1
      have HLN : Hid ((pre ++ postW (xs.take k) (L.take k)).length + (T.length + 1) ≤ N) := by
        show _ ≤ _
        have := HN.out
        rw [List.length_append]
        omega
      have HX0 := Lib.hid hx1
      have HT0 := Lib.hid hT1
      clear hx1 hT1 hpl HX
      have hki : (k : Int) < (k0 : Int) := by omega
      obtain ⟨xk, xv⟩ := x
      dsimp only at d0 d1 d2 d3 d4
      have hr0 := HY.out.nofr HKW.out HX1.out ((Fr.refl NoBlk wr).alloc (.cells #[.string (bstr xk), .bool xv.has, .slice xv.va xv.vn xv.vc, .int .i64 xv.home, .int .u64 (xv.count : Int)] 124))
      have HKW1 : Hid (Keep K W0 (wr.alloc (.cells #[.string (bstr xk), .bool xv.has, .slice xv.va xv.vn xv.vc, .int .i64 xv.home, .int .u64 (xv.count : Int)] 124))) := HKW.out.t hr0.2
      have HKW2 : Hid (Keep K W (wr.alloc (.cells #[.string (bstr xk), .bool xv.has, .slice xv.va xv.vn xv.vc, .int .i64 xv.home, .int .u64 (xv.count : Int)] 124))) := HX2.out.t hr0.2
      have HYK := Lib.hid (HY.out.y (n - 1) _ (xk, xv) _ hr0.1 (by have := HLN.out; omega) (HSE.out _ (List.mem_of_getElem? HX0.out)))
      clear hr0
      gi_wp2
      obtain ⟨fn, tmps, assign, body, hy, hR⟩ := HYK.out
      rw [hy]
      gi_wp2
      refine ⟨fun h => (by simp [Fence.wide] at h), hR.mono ?_⟩
      clear hy hR HYK
      rintro e W3 (⟨rfl, hJ3, hk3⟩ | ⟨rfl, hJx3⟩)
      · have HJ3 := Lib.hid hJ3
        have HK3 : Hid (Keep K W0 W3) := HKW1.out.t hk3
        have HK4 : Hid (Keep K W W3) := HKW2.out.t hk3
        have HSN : Hid (postW (xs.take (k + 1)) (L.take (k + 1)) = postW (xs.take k) (L.take k) ++ (xk, xv) :: T) := postW_snoc xs L k HX0.out HT0.out
        clear hJ3 hk3
        have hwr : IntKind.i64.wrap ((k : Int) + 1) = (k : Int) + 1 := IntWalk.i64_in _ (by omega)
        rcases HQ.out with ⟨hq0, hTT⟩ | ⟨hqn, hkid⟩
        · obtain rfl : np = 0 := by rw [HNP.out, hq0]; rfl
          have HT2 : Hid (T = []) := hTT T (List.mem_of_getElem? HT0.out)
          clear hq0 hTT
          gi_wp2_with (first | (refine skip_wide (by rfl) ?_))
          go_roundw
          case rel =>
            refine ⟨k + 1, by push_cast; rfl, by omega, ?_, HK4.out⟩
            rw [HSN.out, HT2.out, ← List.append_assoc]
            exact HJ3.out
          case measure => simp [intOf]; omega
        · obtain ⟨p, hp⟩ : ∃ p, qs[k + 1]? = some p := ⟨_, List.getElem?_eq_getElem (by have := HK0.out; omega)⟩
          have HKD := Lib.hid (hkid k T p HT0.out hp (n - 1) _ W3 HK3.out HJ3.out (by rw [List.length_append, List.length_singleton]; have := HLN.out; omega))
          obtain ⟨b', o', hBb, pc⟩ := (HB.out.kept HK3.out HKB.out).at_ (k := k + 1) (v := ptr p) (by rw [List.getElem?_map, hp]; rfl)
          subst hBb
          unfold ptr at pc
          have hnp1 : 0 < np := by rw [HNP.out]; omega
          have hki1 : k + 1 < np := by rw [HNP.out]; have := HK0.out; omega
          clear hqn hkid hp
          gi_wp2
          refine ⟨trivial, fun h => (by simp [Fence.wide] at h), HKD.out.mono ?_⟩
          clear HKD pc
          rintro e W4 (⟨rfl, hJ4, hk4⟩ | ⟨rfl, q, hq, hJx4⟩)
          · have HJ4 := Lib.hid hJ4
            have HK5 : Hid (Keep K W W4) := HK4.out.t hk4
            clear hJ4 hk4
            gi_wp2
            go_roundw
            case rel =>
              refine ⟨k + 1, by push_cast; rfl, by omega, ?_, HK5.out⟩
              rw [HSN.out]
              have h := HJ4.out
              simp only [List.append_assoc, List.singleton_append] at h ⊢
              exact h
            case measure => simp [intOf]; omega
          · have HQ4 := Lib.hid (And.intro hq hJx4)
            clear hq hJx4
            gi_wp2
            refine bodyPost_ret (results_tmp rfl _ _ _) rfl ?_
            refine .inr ⟨rfl, postW (xs.take k) (L.take k) ++ (xk, xv) :: q, postW_pre xs L k HX0.out HT0.out HQ4.out.1, ?_⟩
            have h := HQ4.out.2
            simp only [List.append_assoc, List.singleton_append] at h ⊢
            exact h
      · gi_wp2
        refine bodyPost_ret (results_tmp rfl _ _ _) rfl ?_
        refine .inr ⟨rfl, postW (xs.take k) (L.take k) ++ [(xk, xv)], ?_, by rw [← List.append_assoc]; exact hJx3⟩
        exact postW_pre xs L k HX0.out HT0.out (List.nil_prefix)
    · have hkk2 : ¬ (k : Int) < (k0 : Int) := by omega
      have hke : k = k0 := by omega
      have HKE := Lib.hid hke
      clear hke hkk
      gi_wp2
      refine bodyPost_ret (results_tmp rfl _ _ _) rfl ?_
      refine .inl ⟨rfl, ?_, HX.out.2⟩
      have h := HX.out.1
      rw [HKE.out, HK0.out, List.take_length, HL.out, List.take_length] at h
      exact h
set_option maxRecDepth 100000 in
set_option maxHeartbeats 4000000 in
theorem allR_in (l N : Nat) (K : Nat → Prop) (J Jx : List ItR → World → Prop) (W0 : World) {S : ItR → Prop} (HY : Hid (RoundsR l N K W0 J Jx S)) :
    ∀ (d : Nat) (t : Tr ItR d), t.lies tkR W0 → t.shape → (∀ b, t.own b → K b) → t.n ≤ 16 → (∀ x ∈ t.flat, S x) → KidR l N K J Jx W0 t.g t.flat := by
  intro d
  induction d with
  | zero =>
    intro t hl hs hK hn hS n pre W hW h0 hN
    have HT := Lib.hid (Tr.lies_kept hW hl hK)
    obtain ⟨hg, hA, hc, hB, he, hxs⟩ := t
    have HBH : Hid (∀ q, CallsIn Fence.wide (n - 1) Try.prog 73 #[.slice hA hxs.length hc, .slice hB 0 he, .func (.yield l) #[] #[]] (W.drewN q) (WalkR K J Jx pre hxs W)) := fun q => by
      have hd := HY.out.nofr hW h0 ((Fr.refl NoBlk W).drewN q)
      have h1 := behindR_in l N K J Jx W0 HY hA hc hxs hS hB 0 he (List.replicate hxs.length []) (by simp) hl.2.1.rd (fun _ b hb' => hK b (.inr (.inl hb'))) [] (Rd.none_ _ _) (fun h => by simp at h) rfl (.inl ⟨rfl, fun T hT => (List.mem_replicate.1 hT).2⟩) (by have h3 : hxs.length ≤ 16 := hn; omega) (n - 1) pre (W.drewN q) (hW.t hd.2) hd.1 (by rw [postW_rep]; exact hN)
      rw [postW_rep] at h1
      exact h1.mono fun e w' h => h.from_ hd.2
    show CallsIn _ _ _ _ #[.pointer (some ⟨hg, 0, none⟩), _] _ (WalkR K J Jx pre hxs W)
    obtain ⟨b1, b2, b3⟩ := Tr.lies_hd HT.out
    unfold tkR at b1
    dsimp only at b1
    have c0 : W.cell? ⟨hg, 0, none⟩ = some (.slice hA hxs.length hc) := b1.cell 0
    have c1 : W.cell? ⟨hg, 1, none⟩ = some (.slice hB 0 he) := b1.cell 1
    obtain ⟨k0, hk0⟩ : ∃ k0, k0 = hxs.length := ⟨_, rfl⟩
    rw [← hk0] at c0 HBH
    clear b1 b2 b3 HT hk0 hl hs hK hn hS h0 hN
    refine callsIn_of_wp Try.func61 rfl trivial ?_ rfl
    simp only [Try.ntmps61, List.size_toArray, List.length_cons, List.length_nil, Nat.reduceAdd, Nat.reduceSub, Array.replicate_succ, Array.replicate_zero, List.push_toArray, List.append_toArray, List.nil_append, List.cons_append]
    gi_wp2
    gi_quiet (fail)
    gi_wp2_with (first | (refine skip_wide (by rfl) ?_))
    refine ⟨trivial, fun h => (by simp [Fence.wide] at h), (HBH.out _).mono ?_⟩
    clear HBH
    rintro e W4 (⟨rfl, h4⟩ | ⟨rfl, h4⟩)
    · have H4 := Lib.hid h4
      clear h4
      gi_wp2
      exact bodyPost_ret (results_tmp rfl _ _ _) rfl (.inl ⟨rfl, H4.out⟩)
    · have H4 := Lib.hid h4
      clear h4
      gi_wp2
      exact bodyPost_ret (results_tmp rfl _ _ _) rfl (.inr ⟨rfl, H4.out⟩)
  | succ d ih =>
    intro t hl hs hK hn hS n pre W hW h0 hN
    obtain ⟨⟨hg, hA, hc, hB, he, hxs⟩, ks⟩ := t
    have hlen : ks.length = hxs.length + 1 := hs.1
    obtain ⟨kt, kr, rfl⟩ : ∃ kt kr, ks = kt :: kr := by
      cases ks with
      | nil => simp at hlen
      | cons a b => exact ⟨a, b, rfl⟩
    have hlen2 : hxs.length = kr.length := by simpa using hlen.symm
    have hfl : Tr.flat (d := d + 1) (Tr.node ⟨hg, hA, hc, hB, he, hxs⟩ (kt :: kr)) = kt.flat ++ postW hxs (kr.map Tr.flat) := weave_post _ _ _ (by rw [List.length_map]; exact hlen2)
    replace hN : pre.length + (Tr.flat (d := d + 1) (Tr.node ⟨hg, hA, hc, hB, he, hxs⟩ (kt :: kr))).length ≤ N := hN
    have hkid : ∀ k ∈ kt :: kr, KidR l N K J Jx W0 k.g k.flat := fun k hk => ih k (hl.2 k hk) (hs.2 k hk).1 (fun b hb => hK b (.inr ⟨k, hk, hb⟩)) (hs.2 k hk).2.2 (fun x hx => hS x ((sub_kid ((kt :: kr).map Tr.flat) hxs (List.mem_map_of_mem hk) (by rw [List.length_map, List.length_cons]; omega)).subset hx))
    have HT := Lib.hid (Tr.lies_kept hW hl hK)
    have hl1 := hl.1
    have hnn : hxs.length ≤ 16 := hn
    obtain ⟨np, hnp⟩ : ∃ np, np = ((kt :: kr).map Tr.g).length := ⟨_, rfl⟩
    have HBH : Hid (∀ pre' W', Keep K W0 W' → J pre' W' → pre'.length + (postW hxs (kr.map Tr.flat)).length ≤ N → CallsIn Fence.wide (n - 1) Try.prog 73 #[.slice hA hxs.length hc, .slice hB np he, .func (.yield l) #[] #[]] W' (WalkR K J Jx pre' (postW hxs (kr.map Tr.flat)) W')) := fun pre' W' h1 h2 h3 =>
      behindR_in l N K J Jx W0 HY hA hc hxs (fun x hx => hS x ((sub_weave _ _).subset hx)) hB np he (kr.map Tr.flat) (by rw [List.length_map]; exact hlen2) hl1.2.1.rd (fun _ b hb' => hK b (.inl (.inr (.inl hb')))) ((kt :: kr).map Tr.g) hl1.2.2.rd (fun _ b hb' => hK b (.inl (.inr (.inr hb')))) hnp (.inr ⟨by rw [List.length_map, List.length_cons, hlen2], fun i T p hT hp => by
        rw [List.getElem?_map] at hT hp
        rw [List.getElem?_cons_succ] at hp
        cases hk : kr[i]? with
        | none => rw [hk] at hT; cases hT
        | some k =>
          rw [hk] at hT hp
          injection hT with hT
          injection hp with hp
          subst hT hp
          exact hkid k (List.mem_cons_of_mem _ (List.mem_of_getElem? hk))⟩) (by omega) (n - 1) pre' W' h1 h2 h3
    have HKT : Hid (∀ q, CallsIn Fence.wide (n - 1) Try.prog 61 #[.pointer (some ⟨kt.g, 0, none⟩), .func (.yield l) #[] #[]] (W.drewN q) (WalkR K J Jx pre kt.flat W)) := fun q => by
      have hd := HY.out.nofr hW h0 ((Fr.refl NoBlk W).drewN q)
      exact (hkid kt List.mem_cons_self (n - 1) pre (W.drewN q) (hW.t hd.2) hd.1 (by rw [hfl, List.length_append] at hN; omega)).mono fun e w' h => h.from_ hd.2
    show CallsIn _ _ _ _ #[.pointer (some ⟨hg, 0, none⟩), _] _ (WalkR K J Jx pre (Tr.flat (d := d + 1) (Tr.node ⟨hg, hA, hc, hB, he, hxs⟩ (kt :: kr))) W)
    rw [hfl] at hN ⊢
    have HN := Lib.hid hN
    obtain ⟨b1, b2, b3⟩ : (Hd.mk hg hA hc hB he hxs).lies tkR W ((kt :: kr).map Tr.g) := HT.out.1
    unfold tkR at b1 b3
    dsimp only at b1 b3
    rw [← hnp] at b1 b3
    have hnp0 : 0 < np := by rw [hnp]; simp
    obtain ⟨pb, rfl⟩ := b3.addr hnp0
    have pc : W.cell? ⟨pb, 0, none⟩ = some (.pointer (some ⟨kt.g, 0, none⟩)) := b3.cellP (k := 0) (p := kt.g) rfl
    have c0 : W.cell? ⟨hg, 0, none⟩ = some (.slice hA hxs.length hc) := b1.cell 0
    have c1 : W.cell? ⟨hg, 1, none⟩ = some (.slice (some ⟨pb, 0, none⟩) np he) := b1.cell 1
    obtain ⟨k0, hk0⟩ : ∃ k0, k0 = hxs.length := ⟨_, rfl⟩
    rw [← hk0] at c0 HBH
    obtain ⟨ktg, hktg⟩ : ∃ ktg, ktg = kt.g := ⟨_, rfl⟩
    rw [← hktg] at pc HKT
    have HW := Lib.hid hW
    clear b1 b2 b3 HT hk0 hl hs hK hn hS h0 hN hlen hlen2 hfl hkid hl1 hnn hnp hktg hW ih
    refine callsIn_of_wp Try.func61 rfl trivial ?_ rfl
    simp only [Try.ntmps61, List.size_toArray, List.length_cons, List.length_nil, Nat.reduceAdd, Nat.reduceSub, Array.replicate_succ, Array.replicate_zero, List.push_toArray, List.append_toArray, List.nil_append, List.cons_append]
    gi_wp2
    gi_quiet (fail)
    gi_wp2
    refine ⟨trivial, fun h => (by simp [Fence.wide] at h), (HKT.out _).mono ?_⟩
    clear HKT
    rintro e W4 (⟨rfl, hJ4, hk4⟩ | ⟨rfl, q, hq, hx4⟩)
    · have HB4 := Lib.hid (HBH.out _ W4 (HW.out.t hk4) hJ4 (by have := HN.out; simp only [List.length_append] at this ⊢; omega))
      have HK4 := Lib.hid hk4
      clear HBH hJ4 hk4
      gi_wp2
      refine ⟨trivial, fun h => (by simp [Fence.wide] at h), HB4.out.mono ?_⟩
      clear HB4
      rintro e W5 (⟨rfl, hJ5, hk5⟩ | ⟨rfl, q, hq, hx5⟩)
      · have H5 := Lib.hid (And.intro hJ5 hk5)
        clear hJ5 hk5
        gi_wp2
        exact bodyPost_ret (results_tmp rfl _ _ _) rfl (.inl ⟨rfl, by rw [← List.append_assoc]; exact H5.out.1, HK4.out.t H5.out.2⟩)
      · have H5 := Lib.hid (And.intro hq hx5)
        clear hq hx5
        gi_wp2
        exact bodyPost_ret (results_tmp rfl _ _ _) rfl (.inr ⟨rfl, kt.flat ++ q, (List.prefix_append_right_inj _).2 H5.out.1, by rw [← List.append_assoc]; exact H5.out.2⟩)
    · have H4 := Lib.hid (And.intro hq hx4)
      clear hq hx4
      gi_wp2
      exact bodyPost_ret (results_tmp rfl _ _ _) rfl (.inr ⟨rfl, q, H4.out.1.trans (List.prefix_append _ _), H4.out.2⟩)
end Go.Proofs.Ytkdcacajacndmaa
