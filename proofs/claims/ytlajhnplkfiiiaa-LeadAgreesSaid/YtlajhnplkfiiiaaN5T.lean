/- What a loop over a tree tells: All, From; Keys, Values, First. Conditions: at most 100000 keys. -/
import Derived.RangeFuncBox
import Derived.Maps.AppendAt
import Derived.Test.YtlajhnplkfiiiaaF3T
import Derived.Test.YtlajhnplkfiiiaaN4T

namespace Go.Proofs.Ytlajhnplkfiiiaa
open Go.RowKit Go.Shelf
attribute [local go_sem] Oper.semAt_some
def encT (x : ItT) : Array Value := #[.int .i64 x.1, .agg #[.int .i64 x.2.slot, .int .u64 (x.2.bal : Int), .string (bstr x.2.val)]]
set_option maxRecDepth 100000 in
theorem treeFromT_any (w : World) (g : Nat) (key : Int) : Calls Try.prog 32 #[.pointer (some ⟨g, 0, none⟩), .int .i64 key] w fun e w' => e = .returned (.func (.func 41) #[] #[.pointer (some ⟨w.heap.size, 0, none⟩), .pointer (some ⟨w.heap.size + 1, 0, none⟩)]) ∧ w' = (w.alloc (.cells #[.pointer (some ⟨g, 0, none⟩)] 87)).alloc (.cells #[.int .i64 key] 3) := by
  go_enter Try.func32, Try.ntmps32
  go_wp2_with fail
  go_ret
  exact ⟨by simp, rfl⟩
set_option maxRecDepth 100000 in
set_option maxHeartbeats 800000 in
theorem fromT_stops (n bx by' : Nat) (K : Nat → Prop) (W0 : World) (g : Nat) (O : Nat → Prop) (xs : List ItT) (key : Int) (hT : TreeT W0 g O xs) (hK : ∀ b, K b ↔ (O b ∨ b = bx ∨ b = by')) (hbx : bx < W0.heap.size) (hby : by' < W0.heap.size) (hc : W0.cell? ⟨bx, 0, none⟩ = some (.pointer (some ⟨g, 0, none⟩))) (hc' : W0.cell? ⟨by', 0, none⟩ = some (.int .i64 key)) :
    SeqStopsK Fence.wide n Try.prog 41 #[.pointer (some ⟨bx, 0, none⟩), .pointer (some ⟨by', 0, none⟩)] encT (Keep K) (fun ys => ys = geL ltI key xs) (fun pre => pre <+: geL ltI key xs) (geL ltI key xs).length W0 := fun l J Jx W hW hJ _ hY h0 => by
  obtain ⟨d, t, h1, h2, rfl, h4, h5, h6, h7, h8⟩ := hT
  have hlt : ∀ b, K b → b < W0.heap.size := fun b hb => by
    rcases (hK b).1 hb with h | rfl | rfl
    · rcases (h8 b).1 h with rfl | h
      · exact h1.lt
      · exact h2.lt h
    · exact hbx
    · exact hby
  have hf : Fr NoBlk W0 W := Fr.ofBelow hW
  have hRO : RoundsT l (geL ltI key t.flat).length K W0 J Jx := ⟨fun m pre x W1 hj hl => YieldAt.any_ (hY pre x W1 hj hl), ⟨_, hJ⟩, hlt⟩
  have hg : g < W0.heap.size := h1.lt
  have hall : ∀ pre W1, Keep K W0 W1 → J pre W1 → pre.length + (geL ltI key t.flat).length ≤ (geL ltI key t.flat).length → CallsIn Fence.wide (n - 1) Try.prog 42 #[.pointer (some ⟨t.g, 0, none⟩), .int .i64 key, .func (.yield l) #[] #[]] W1 (WalkT K J Jx pre (geL ltI key t.flat) W1) :=
    fun pre W1 => fromT_in l _ K J Jx W0 hRO key d t h2.lies h2.shape (fun b hb => (hK b).2 (.inl ((h8 b).2 (.inr hb)))) h5 h4 (n - 1) pre W1
  have hfd : Fr NoBlk W0 W.drew := hf.drew
  have HA := Lib.hid ((hall [] W.drew (hfd.keep fun k hk => ⟨hlt k hk, fun e => e⟩) (AbidesFrom.nofr hJ h0 (Fr.refl _ _).drew) (by simp)).mono (R' := fun e W' => ∃ b, e = .returned (.bool b) ∧ Hid ((∃ ys, ys = geL ltI key t.flat ∧ J ys W') ∨ (∃ pre, pre <+: geL ltI key t.flat ∧ Jx pre W'))) fun e W' h => by
    rcases h with ⟨h1, h2, _⟩ | ⟨h1, q, h2, h3⟩
    · exact ⟨true, h1, .inl ⟨_, rfl, h2⟩⟩
    · exact ⟨false, h1, .inr ⟨q, h2, h3⟩⟩)
  have c0 : W.cell? ⟨bx, 0, none⟩ = some (.pointer (some ⟨g, 0, none⟩)) := (hf.cell (p := ⟨bx, 0, none⟩) hbx fun e => e).trans hc
  have c2 : W.cell? ⟨by', 0, none⟩ = some (.int .i64 key) := (hf.cell (p := ⟨by', 0, none⟩) hby fun e => e).trans hc'
  have c1 : W.cell? ⟨g, 0, none⟩ = some (.pointer (some ⟨t.g, 0, none⟩)) := (hf.cell (p := ⟨g, 0, none⟩) hg fun e => e).trans (h1.cell 0)
  obtain ⟨tg, htg⟩ : ∃ tg, tg = t.g := ⟨_, rfl⟩
  rw [← htg] at HA c1
  have c0d : W.drew.cell? ⟨bx, 0, none⟩ = some (.pointer (some ⟨g, 0, none⟩)) := c0
  have c1d : W.drew.cell? ⟨g, 0, none⟩ = some (.pointer (some ⟨tg, 0, none⟩)) := c1
  have c2d : W.drew.cell? ⟨by', 0, none⟩ = some (.int .i64 key) := c2
  clear h1 h2 h4 h5 h6 h7 h8 hlt hf hRO hg hall hW hJ hY h0 htg hK hbx hc hby hc' hfd
  have hmo : Try.prog.follows .mixedOrders = true := by kernel_rfl
  refine callsIn_of_wp Try.func41 rfl trivial ?_ rfl
  simp only [Try.ntmps41, List.size_toArray, List.length_cons, List.length_nil, Nat.reduceAdd, Nat.reduceSub, Array.replicate_succ, Array.replicate_zero, List.push_toArray, List.append_toArray, List.nil_append, List.cons_append]
  gi_wp2
  gi_region_with_o (refine ⟨trivial, fun h => (by simp [Fence.wide] at h), HA.out.mono ?_⟩; rintro e W4 ⟨bb, rfl, h4⟩)
  all_goals
    gi_wp2
    go_end0
    exact ⟨⟨_, rfl⟩, h4.out⟩
end Go.Proofs.Ytlajhnplkfiiiaa
