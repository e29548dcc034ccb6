/- What a loop over the tree of a store tells, each element one of its rows. Conditions: those of the shape of the tree. -/
import Derived.RangeFuncBound
import Derived.Test.YtkdcacajacndmaaN5R
import Derived.Test.YtkdcacajacndmaaSb
namespace Go.Proofs.Ytkdcacajacndmaa
open Go.RowKit Go.Shelf
attribute [local go_sem] Oper.semAt_some
def toIt (z : Zr) : ItR := (z.1, z.2.1)
abbrev El (zs : List Zr) : Type := { z : Zr // z ∈ zs }
set_option maxRecDepth 100000 in
set_option maxHeartbeats 800000 in
theorem allZ_stops (n bx : Nat) (K : Nat → Prop) (W0 : World) (g : Nat) (O : Nat → Prop) (xs : List ItR) (zs : List Zr) (hzs : xs = vz zs) (hT : TreeR W0 g O xs) (hK : ∀ b, K b ↔ (O b ∨ b = bx)) (hbx : bx < W0.heap.size) (hc : W0.cell? ⟨bx, 0, none⟩ = some (.pointer (some ⟨g, 0, none⟩))) :
    SeqStopsK Fence.wide n Try.prog 60 #[.pointer (some ⟨bx, 0, none⟩)] (fun z : El zs => encR (toIt z.1)) (Keep K) (fun ys => ys.map (fun z => toIt z.1) = xs) (fun pre => pre.map (fun z => toIt z.1) <+: xs) xs.length W0 := fun l J0 Jx0 W hW hJ0 _ hY0 h00 => by
  obtain ⟨J, hJd⟩ : ∃ J : List ItR → World → Prop, J = fun pre W => ∃ az : List (El zs), az.map (fun z => toIt z.1) = pre ∧ J0 az W := ⟨_, rfl⟩
  obtain ⟨Jx, hJxd⟩ : ∃ J : List ItR → World → Prop, J = fun pre W => ∃ az : List (El zs), az.map (fun z => toIt z.1) = pre ∧ Jx0 az W := ⟨_, rfl⟩
  have hJ : AbidesFrom W.heap.size J := fun s w w' row hs hg hr => by
    rw [hJd] at hs ⊢
    obtain ⟨az, e, h⟩ := hs
    exact ⟨az, e, hJ0 az w w' row h hg hr⟩
  have h0 : J [] W := by rw [hJd]; exact ⟨[], rfl, h00⟩
  have hY : ∀ pre x W1, J pre W1 → pre.length < xs.length → (∃ z : El zs, toIt z.1 = x) → YieldAt Fence.wide (n - 1) Try.prog l (encR x) W1 fun e W' => (e = .returned (.bool true) ∧ J (pre ++ [x]) W' ∧ Keep K W1 W') ∨ (e = .returned (.bool false) ∧ Jx (pre ++ [x]) W') := fun pre x W1 hj hl hx => by
    obtain ⟨z, rfl⟩ := hx
    rw [hJd] at hj
    obtain ⟨az, e, h⟩ := hj
    refine (hY0 az z W1 h (by rw [← e, List.length_map] at hl; exact hl)).mono ?_
    rintro e' W' (⟨h1, h2, h3⟩ | ⟨h1, h2⟩)
    · exact .inl ⟨h1, by rw [hJd]; exact ⟨az ++ [z], by rw [List.map_append, e]; rfl, h2⟩, h3⟩
    · exact .inr ⟨h1, by rw [hJxd]; exact ⟨az ++ [z], by rw [List.map_append, e]; rfl, h2⟩⟩
  obtain ⟨d, t, h1, h2, rfl, h4, h5, h6, h7, h8⟩ := hT
  have hlt : ∀ b, K b → b < W0.heap.size := fun b hb => by
    rcases (hK b).1 hb with h | rfl
    · rcases (h8 b).1 h with rfl | h
      · exact h1.lt
      · exact h2.lt h
    · exact hbx
  have hf : Fr NoBlk W0 W := Fr.ofBelow hW
  have hRO : RoundsR l t.flat.length K W0 J Jx (fun x => ∃ z : El zs, toIt z.1 = x) := ⟨fun m pre x W1 hj hl hx => YieldAt.any_ (hY pre x W1 hj hl hx), ⟨_, hJ⟩, hlt⟩
  have hg : g < W0.heap.size := h1.lt
  have hSZ : ∀ x ∈ t.flat, ∃ z : El zs, toIt z.1 = x := fun x hx => by
    rw [hzs] at hx
    obtain ⟨z, hz, e⟩ := List.mem_map.1 hx
    exact ⟨⟨z, hz⟩, e⟩
  have hall : ∀ pre W1, Keep K W0 W1 → J pre W1 → pre.length + t.flat.length ≤ t.flat.length → CallsIn Fence.wide (n - 1) Try.prog 61 #[.pointer (some ⟨t.g, 0, none⟩), .func (.yield l) #[] #[]] W1 (WalkR K J Jx pre t.flat W1) :=
    fun pre W1 => allR_in l _ K J Jx W0 hRO d t h2.lies h2.shape (fun b hb => (hK b).2 (.inl ((h8 b).2 (.inr hb)))) h5 hSZ (n - 1) pre W1
  have HA := Lib.hid (hall [] W (hf.keep fun k hk => ⟨hlt k hk, fun e => e⟩) h0 (by simp))
  have c0 : W.cell? ⟨bx, 0, none⟩ = some (.pointer (some ⟨g, 0, none⟩)) := (hf.cell (p := ⟨bx, 0, none⟩) hbx fun e => e).trans hc
  have c1 : W.cell? ⟨g, 0, none⟩ = some (.pointer (some ⟨t.g, 0, none⟩)) := (hf.cell (p := ⟨g, 0, none⟩) hg fun e => e).trans (h1.cell 0)
  obtain ⟨tg, htg⟩ : ∃ tg, tg = t.g := ⟨_, rfl⟩
  rw [← htg] at HA c1
  clear h1 h2 h4 h5 h6 h7 h8 hlt hf hRO hg hall hW hJ hY h0 htg hK hbx hc hSZ hJ0 hY0 h00 hzs
  refine callsIn_of_wp Try.func60 rfl trivial ?_ rfl
  simp only [Try.ntmps60, List.size_toArray, List.length_cons, List.length_nil, Nat.reduceAdd, Nat.reduceSub, Array.replicate_succ, Array.replicate_zero, List.push_toArray, List.append_toArray, List.nil_append, List.cons_append]
  gi_wp2
  refine ⟨trivial, fun h => (by simp [Fence.wide] at h), HA.out.mono ?_⟩
  clear HA
  rintro e W4 (⟨rfl, hJ4, hk4⟩ | ⟨rfl, q, hq, hx4⟩)
  · have H4 := Lib.hid hJ4
    clear hJ4 hk4
    gi_wp2
    go_end0
    have h := H4.out
    rw [hJd] at h
    obtain ⟨az, e, h⟩ := h
    exact ⟨⟨_, rfl⟩, .inl ⟨az, e, h⟩⟩
  · have H4 := Lib.hid (And.intro hq hx4)
    clear hq hx4
    gi_wp2
    go_end0
    have h := H4.out.2
    rw [hJxd] at h
    obtain ⟨az, e, h⟩ := h
    exact ⟨⟨_, rfl⟩, .inr ⟨az, by rw [e]; exact H4.out.1, h⟩⟩
set_option maxRecDepth 100000 in
set_option maxHeartbeats 800000 in
theorem fromZ_stops (n bx by' : Nat) (K : Nat → Prop) (W0 : World) (g : Nat) (O : Nat → Prop) (xs : List ItR) (zs : List Zr) (hzs : xs = vz zs) (key : Bs) (hT : TreeR W0 g O xs) (hK : ∀ b, K b ↔ (O b ∨ b = bx ∨ b = by')) (hbx : bx < W0.heap.size) (hby : by' < W0.heap.size) (hc : W0.cell? ⟨bx, 0, none⟩ = some (.pointer (some ⟨g, 0, none⟩))) (hc' : W0.cell? ⟨by', 0, none⟩ = some (.string (bstr key))) :
    SeqStopsK Fence.wide n Try.prog 66 #[.pointer (some ⟨bx, 0, none⟩), .pointer (some ⟨by', 0, none⟩)] (fun z : El zs => encR (toIt z.1)) (Keep K) (fun ys => ys.map (fun z => toIt z.1) = geL Op.bytesLess key xs) (fun pre => pre.map (fun z => toIt z.1) <+: geL Op.bytesLess key xs) (geL Op.bytesLess key xs).length W0 := fun l J0 Jx0 W hW hJ0 _ hY0 h00 => by
  obtain ⟨J, hJd⟩ : ∃ J : List ItR → World → Prop, J = fun pre W => ∃ az : List (El zs), az.map (fun z => toIt z.1) = pre ∧ J0 az W := ⟨_, rfl⟩
  obtain ⟨Jx, hJxd⟩ : ∃ J : List ItR → World → Prop, J = fun pre W => ∃ az : List (El zs), az.map (fun z => toIt z.1) = pre ∧ Jx0 az W := ⟨_, rfl⟩
  have hJ : AbidesFrom W.heap.size J := fun s w w' row hs hg hr => by
    rw [hJd] at hs ⊢
    obtain ⟨az, e, h⟩ := hs
    exact ⟨az, e, hJ0 az w w' row h hg hr⟩
  have h0 : J [] W := by rw [hJd]; exact ⟨[], rfl, h00⟩
  have hY : ∀ pre x W1, J pre W1 → pre.length < (geL Op.bytesLess key xs).length → (∃ z : El zs, toIt z.1 = x) → YieldAt Fence.wide (n - 1) Try.prog l (encR x) W1 fun e W' => (e = .returned (.bool true) ∧ J (pre ++ [x]) W' ∧ Keep K W1 W') ∨ (e = .returned (.bool false) ∧ Jx (pre ++ [x]) W') := fun pre x W1 hj hl hx => by
    obtain ⟨z, rfl⟩ := hx
    rw [hJd] at hj
    obtain ⟨az, e, h⟩ := hj
    refine (hY0 az z W1 h (by rw [← e, List.length_map] at hl; exact hl)).mono ?_
    rintro e' W' (⟨h1, h2, h3⟩ | ⟨h1, h2⟩)
    · exact .inl ⟨h1, by rw [hJd]; exact ⟨az ++ [z], by rw [List.map_append, e]; rfl, h2⟩, h3⟩
    · exact .inr ⟨h1, by rw [hJxd]; exact ⟨az ++ [z], by rw [List.map_append, e]; rfl, h2⟩⟩
  obtain ⟨d, t, h1, h2, rfl, h4, h5, h6, h7, h8⟩ := hT
  have hlt : ∀ b, K b → b < W0.heap.size := fun b hb => by
    rcases (hK b).1 hb with h | rfl | rfl
    · rcases (h8 b).1 h with rfl | h
      · exact h1.lt
      · exact h2.lt h
    · exact hbx
    · exact hby
  have hf : Fr NoBlk W0 W := Fr.ofBelow hW
  have hRO : RoundsR l (geL Op.bytesLess key t.flat).length K W0 J Jx (fun x => ∃ z : El zs, toIt z.1 = x) := ⟨fun m pre x W1 hj hl hx => YieldAt.any_ (hY pre x W1 hj hl hx), ⟨_, hJ⟩, hlt⟩
  have hg : g < W0.heap.size := h1.lt
  have hSZ : ∀ x ∈ t.flat, ∃ z : El zs, toIt z.1 = x := fun x hx => by
    rw [hzs] at hx
    obtain ⟨z, hz, e⟩ := List.mem_map.1 hx
    exact ⟨⟨z, hz⟩, e⟩
  have hall : ∀ pre W1, Keep K W0 W1 → J pre W1 → pre.length + (geL Op.bytesLess key t.flat).length ≤ (geL Op.bytesLess key t.flat).length → CallsIn Fence.wide (n - 1) Try.prog 67 #[.pointer (some ⟨t.g, 0, none⟩), .string (bstr key), .func (.yield l) #[] #[]] W1 (WalkR K J Jx pre (geL Op.bytesLess key t.flat) W1) :=
    fun pre W1 => fromR_in l _ K J Jx W0 hRO key d t h2.lies h2.shape (fun b hb => (hK b).2 (.inl ((h8 b).2 (.inr hb)))) h5 h4 hSZ (n - 1) pre W1
  have hfd : Fr NoBlk W0 W.drew := hf.drew
  have HA := Lib.hid ((hall [] W.drew (hfd.keep fun k hk => ⟨hlt k hk, fun e => e⟩) (AbidesFrom.nofr hJ h0 (Fr.refl _ _).drew) (by simp)).mono (R' := fun e W' => ∃ b, e = .returned (.bool b) ∧ Hid ((∃ ys, ys = geL Op.bytesLess key t.flat ∧ J ys W') ∨ (∃ pre, pre <+: geL Op.bytesLess key t.flat ∧ Jx pre W'))) fun e W' h => by
    rcases h with ⟨h1, h2, _⟩ | ⟨h1, q, h2, h3⟩
    · exact ⟨true, h1, .inl ⟨_, rfl, h2⟩⟩
    · exact ⟨false, h1, .inr ⟨q, h2, h3⟩⟩)
  have c0 : W.cell? ⟨bx, 0, none⟩ = some (.pointer (some ⟨g, 0, none⟩)) := (hf.cell (p := ⟨bx, 0, none⟩) hbx fun e => e).trans hc
  have c2 : W.cell? ⟨by', 0, none⟩ = some (.string (bstr key)) := (hf.cell (p := ⟨by', 0, none⟩) hby fun e => e).trans hc'
  have c1 : W.cell? ⟨g, 0, none⟩ = some (.pointer (some ⟨t.g, 0, none⟩)) := (hf.cell (p := ⟨g, 0, none⟩) hg fun e => e).trans (h1.cell 0)
  obtain ⟨tg, htg⟩ : ∃ tg, tg = t.g := ⟨_, rfl⟩
  rw [← htg] at HA c1
  have c0d : W.drew.cell? ⟨bx, 0, none⟩ = some (.pointer (some ⟨g, 0, none⟩)) := c0
  have c1d : W.drew.cell? ⟨g, 0, none⟩ = some (.pointer (some ⟨tg, 0, none⟩)) := c1
  have c2d : W.drew.cell? ⟨by', 0, none⟩ = some (.string (bstr key)) := c2
  clear h1 h2 h4 h5 h6 h7 h8 hlt hf hRO hg hall hW hJ hY h0 htg hK hbx hc hSZ hJ0 hY0 h00 hzs hby hc' hfd
  have hmo : Try.prog.follows .mixedOrders = true := by kernel_rfl
  refine callsIn_of_wp Try.func66 rfl trivial ?_ rfl
  simp only [Try.ntmps66, List.size_toArray, List.length_cons, List.length_nil, Nat.reduceAdd, Nat.reduceSub, Array.replicate_succ, Array.replicate_zero, List.push_toArray, List.append_toArray, List.nil_append, List.cons_append]
  gi_wp2
  gi_region_with_o (refine ⟨trivial, fun h => (by simp [Fence.wide] at h), HA.out.mono ?_⟩; rintro e W4 ⟨bb, rfl, h4⟩)
  all_goals
    gi_wp2
    go_end0
    refine ⟨⟨_, rfl⟩, ?_⟩
    rcases h4.out with ⟨ys, e, h⟩ | ⟨q, e, h⟩
    · rw [hJd] at h
      obtain ⟨az, e1, h⟩ := h
      exact .inl ⟨az, e1.trans e, h⟩
    · rw [hJxd] at h
      obtain ⟨az, e1, h⟩ := h
      exact .inr ⟨az, by rw [e1]; exact e, h⟩
end Go.Proofs.Ytkdcacajacndmaa
