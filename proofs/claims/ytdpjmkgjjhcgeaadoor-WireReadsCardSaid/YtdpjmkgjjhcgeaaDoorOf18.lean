/- The law's own form of a message. Conditions: the message lies in memory, its votes are few. -/
import Derived.Test.YtdpjmkgjjhcgeaaDoorRow
import Derived.Test.YtdpjmkgjjhcgeaaDoorDec
namespace Go.Proofs.YtdpjmkgjjhcgeaaDoor
open Go.RowKit

theorem rvInfo : (Tryd.prog.info? 62).map (fun i => (i.zero, i.size, i.bytes)) = some (some (.agg #[.int .i64 0, .int .u64 0, .string ByteArray.empty]), 3, 32) := by kernel_rfl
def zRef : Array Value := #[.int .i64 0, .int .i64 0, .int .i64 0, .int .i64 0, .int .i64 0, .int .u64 0, .string { data := #[] }, .slice none 0 0]
/-- a message in rows of the call's own. -/
structure OfPost (w : World) (m : Mg) (w' : World) (q : Mg) : Prop where
  like : MLike q m
  own : w'.ownsRow w.heap.size 62 3 (.slice q.va q.votes.length q.vc) q.votes.length (vtsc q.votes)
  fr : Fr NoBlk w w'
structure OfS (w wr : World) (m : Mg) (A : Option Addr) (c : Nat) (vs : List Vt) : Prop where
  bm : Bk wr w.heap.size 26 (mga m)
  br : Bk wr (w.heap.size + 1) 36 zRef
  bo : Bk wr (w.heap.size + 1 + 1) 36 (mga { m with va := A, vc := c, votes := vs })
  own : wr.ownsRow w.heap.size 62 3 (.slice A vs.length c) vs.length (vtsc vs)
  fr : Fr NoBlk w wr
theorem OfS.nofr {w wr w' : World} {m : Mg} {A : Option Addr} {c : Nat} {vs : List Vt} (h : OfS w wr m A c vs) (hf : Fr NoBlk wr w') : OfS w w' m A c vs :=
  ⟨h.bm.fr hf (fun h => h), h.br.fr hf (fun h => h), h.bo.fr hf (fun h => h), own_fr h.own hf (fun _ _ h => h), h.fr.trans hf⟩
theorem OfS.grown {w wr w' : World} {m : Mg} {A : Option Addr} {c : Nat} {vs : List Vt} (h : OfS w wr m A c vs) (hg : wr.grownBy w' (Value.slice A vs.length c).ownBlock) :
    Bk w' w.heap.size 26 (mga m) ∧ Bk w' (w.heap.size + 1) 36 zRef ∧ Bk w' (w.heap.size + 1 + 1) 36 (mga { m with va := A, vc := c, votes := vs }) :=
  ⟨h.bm.fr (Fr.ofGrown hg) (fun e => own_apart h.own h.bm (by decide) e.symm), h.br.fr (Fr.ofGrown hg) (fun e => own_apart h.own h.br (by decide) e.symm), h.bo.fr (Fr.ofGrown hg) (fun e => own_apart h.own h.bo (by decide) e.symm)⟩
theorem OfS.grownF {w wr w' : World} {m : Mg} {A : Option Addr} {c : Nat} {vs : List Vt} (h : OfS w wr m A c vs) (hg : wr.grownBy w' (Value.slice A vs.length c).ownBlock) : Fr NoBlk w w' :=
  h.fr.grown hg (fun k hk hlt => absurd (own_blk h.own hk).1 (by omega))
theorem OfS.push {w wr w' : World} {m : Mg} {A A' : Option Addr} {c c' : Nat} {vs : List Vt} {x : Vt} (h : OfS w wr m A c vs) (hg : wr.grownBy w' (Value.slice A vs.length c).ownBlock)
    (ho : w'.ownsRow w.heap.size 62 3 (.slice A' (vs.length + 1) c') (vs.length + 1) (vtsc vs ++ vtc x)) :
    OfS w (w'.setCell ⟨w.heap.size + 1 + 1, 7, none⟩ (.slice A' (vs.length + 1) c')) m A' c' (vs ++ [x]) := by
  obtain ⟨k1, k2, k3⟩ := h.grown hg
  have hf2 : Fr (fun k => k = w.heap.size + 1 + 1) w' (w'.setCell ⟨w.heap.size + 1 + 1, 7, none⟩ (.slice A' (vs.length + 1) c')) := (Fr.refl (fun k => k = w.heap.size + 1 + 1) w').setCell (p := ⟨w.heap.size + 1 + 1, 7, none⟩) (fun _ => rfl) _
  have hlen : (vs ++ [x]).length = vs.length + 1 := by simp
  have hcs : vtsc (vs ++ [x]) = vtsc vs ++ vtc x := by rw [vtsc_append]; simp [vtsc]
  refine ⟨k1.fr hf2 (by omega), k2.fr hf2 (by omega), ?_, ?_, ?_⟩
  · refine Bk.cast (k3.put 7 (.slice A' (vs.length + 1) c')) ?_
    unfold mga
    simp only [List.setIfInBounds_toArray, List.set_cons_zero, List.set_cons_succ, hlen]
  · rw [hlen, hcs]
    exact own_set ho k3 (by decide)
  · exact (h.fr.grown hg (fun k hk hlt => absurd (own_blk h.own hk).1 (by omega))).step hf2 (fun k hk e => by omega)

set_option maxRecDepth 100000 in
set_option maxHeartbeats 8000000 in
theorem of_any (w : World) (m : Mg) (hm : MgIn w m) (hl : m.votes.length ≤ 1000000) :
    Calls Tryd.prog 12 #[mgv m] w fun e w' => ∃ q, e = .returned (mgv q) ∧ OfPost w m w' q := by
  obtain ⟨i0, hi, hz0, hz1, hz2⟩ := info_parts rvInfo
  obtain ⟨w2, hw2⟩ : ∃ w2, w2 = ((w.alloc (.cells (mga m) 26)).alloc (.cells zRef 36)).alloc (.cells (mga { m with va := none, vc := 0, votes := [] }) 36) := ⟨_, rfl⟩
  have HX : Hid (OfS w w2 m none 0 []) := by
    show OfS _ _ _ _ _ _
    rw [hw2]
    exact ⟨((Bk.new w _ _).alloc _).alloc _, (Bk.new' _ _ _ (by simp)).alloc _, Bk.new' _ _ _ (by simp), World.ownsRow_nil _ _ _ _, (((Fr.refl _ _).alloc _).alloc _).alloc _⟩
  have HM := Lib.hid hm
  have HML := Lib.hid hl
  clear hm hl
  unfold mga zRef at hw2
  unfold mgv mga
  dsimp only [List.length_nil] at hw2
  go_enter Tryd.func12, Tryd.ntmps12
  go_upto_region 2 with fail
  rw [← hw2]
  clear hw2
  go_wp2_with fail
  go_loopw [4] (fun s wr => ∃ (k : Nat) (A : Option Addr) (c : Nat) (vs : List Vt), k ≤ m.votes.length ∧ s = .int .i64 k ∧ Hid (vs = m.votes.take k) ∧ Hid (OfS w wr m A c vs)) (fun s _ => m.votes.length - (intOf s).toNat)
  case atStart => exact ⟨0, none, 0, [], by omega, rfl, rfl, HX⟩
  case round =>
    obtain ⟨k, A, c, vs, hk, rfl, HT, HW⟩ := hrel
    have c7 : wr.cell? ⟨w.heap.size, 7, none⟩ = some (.slice m.va m.votes.length m.vc) := HW.out.bm.cell 7
    have hmx : m.votes.length ≤ 1000000 := HML.out
    by_cases hlt : k < m.votes.length
    · obtain ⟨x, hx⟩ : ∃ x, m.votes[k]? = some x := ⟨_, List.getElem?_eq_getElem hlt⟩
      obtain ⟨b, o', hA, x0, x1, x2⟩ := (HM.out.votes.nofr HW.out.fr).vote hx
      have HVL : Hid (vs.length ≤ 1000000) := by
        have := HT.out
        show _ ≤ _
        rw [this, List.length_take]
        omega
      have HT1 : Hid (vs ++ [x] = m.votes.take (k + 1)) := by
        obtain ⟨hk', rfl⟩ := List.getElem?_eq_some_iff.1 hx
        show _ = _
        rw [HT.out, List.take_succ_eq_append_getElem hk']
      have HAE := Lib.hid hA
      have HSK : Hid (∀ w', Bk w' w.heap.size 26 (mga m) → Fr NoBlk w w' → w'.cell? ⟨w.heap.size, 7, none⟩ = some (.slice (some ⟨b, o', none⟩) m.votes.length m.vc) ∧ w'.cell? ⟨b, o' + k * 3, none⟩ = some (.int .i64 x.slot) ∧ w'.cell? ⟨b, o' + k * 3 + 1, none⟩ = some (.int .u64 (x.ballot : Int)) ∧ w'.cell? ⟨b, o' + k * 3 + 2, none⟩ = some (.string (bstr x.value))) := fun w' hb hf => by
        obtain ⟨b2, o2, hA2, y0, y1, y2⟩ := (HM.out.votes.nofr hf).vote hx
        rw [hA] at hA2
        injection hA2 with hA2
        injection hA2 with h1 h2
        subst h1 h2
        exact ⟨by rw [← hA]; exact hb.cell 7, y0, y1, y2⟩
      have HX0 := Lib.hid (HW.out.nofr ((Fr.refl NoBlk wr).drew))
      rw [hA] at c7
      clear hA hx
      go_upto_region 5 with fail
      refine wp_region_held_drew (S := (fun w' => w'.cell? ⟨w.heap.size, 7, none⟩ = some (.slice (some ⟨b, o', none⟩) m.votes.length m.vc) ∧ w'.cell? ⟨b, o' + k * 3, none⟩ = some (.int .i64 x.slot) ∧ w'.cell? ⟨b, o' + k * 3 + 1, none⟩ = some (.int .u64 (x.ballot : Int)) ∧ w'.cell? ⟨b, o' + k * 3 + 2, none⟩ = some (.string (bstr x.value)))) (by kernel_rfl) (HSK.out _ HX0.out.bm HX0.out.fr) (fun hHeld => ?_)
      refine wpAnyH_take (i := 0) (oi := ⟨some 27, _, _, _, _, _⟩) (v := ?_) rfl (by kernel_rfl) (by kernel_rfl) (by kernel_rfl) (fun _ _ _ h => h) (Or.inl ⟨by rfl, ?_⟩) (by assumption) ?_
      rotate_left 1
      · (intro w hSw; obtain ⟨s7, s0, s1, s2⟩ := hSw; go_simp) <;> (with_reducible rfl)
      try simp only [Act.put, List.setIfInBounds_toArray, List.set_cons_zero, List.set_cons_succ]
      refine wpAnyH_take (i := 2) (oi := ⟨some 29, _, _, _, _, _⟩) (v := ?_) rfl (by kernel_rfl) (by kernel_rfl) (by kernel_rfl) (fun _ _ _ h => h) (Or.inl ⟨by rfl, ?_⟩) (by assumption) ?_
      rotate_left 1
      · (intro w hSw; obtain ⟨s7, s0, s1, s2⟩ := hSw; go_simp) <;> (with_reducible rfl)
      try simp only [Act.put, List.setIfInBounds_toArray, List.set_cons_zero, List.set_cons_succ]
      refine wpAnyH_take (i := 3) (oi := ⟨some 30, _, _, _, _, _⟩) (v := ?_) rfl (by kernel_rfl) (by kernel_rfl) (by kernel_rfl) (fun _ _ _ h => h) (Or.inl ⟨by rfl, ?_⟩) (by assumption) ?_
      rotate_left 1
      · (intro w hSw; obtain ⟨s7, s0, s1, s2⟩ := hSw; go_simp) <;> (with_reducible rfl)
      try simp only [Act.put, List.setIfInBounds_toArray, List.set_cons_zero, List.set_cons_succ]
      refine wpAnyH_take (i := 4) (oi := ⟨some 31, _, _, _, _, _⟩) (v := ?_) rfl (by kernel_rfl) (by kernel_rfl) (by kernel_rfl) (fun _ _ _ h => h) (Or.inl ⟨by rfl, ?_⟩) (by assumption) ?_
      rotate_left 1
      · (intro w hSw; obtain ⟨s7, s0, s1, s2⟩ := hSw; go_simp) <;> (with_reducible rfl)
      try simp only [Act.put, List.setIfInBounds_toArray, List.set_cons_zero, List.set_cons_succ]
      refine wpAnyH_take (i := 5) (oi := ⟨some 32, _, _, _, _, _⟩) (v := ?_) rfl (by kernel_rfl) (by kernel_rfl) (by kernel_rfl) (fun _ _ _ h => h) (Or.inl ⟨by rfl, ?_⟩) (by assumption) ?_
      rotate_left 1
      · (intro w hSw; obtain ⟨s7, s0, s1, s2⟩ := hSw; go_simp) <;> (with_reducible rfl)
      try simp only [Act.put, List.setIfInBounds_toArray, List.set_cons_zero, List.set_cons_succ]
      refine wpAnyH_take (i := 6) (oi := ⟨some 33, _, _, _, _, _⟩) (v := ?_) rfl (by kernel_rfl) (by kernel_rfl) (by kernel_rfl) (fun _ _ _ h => h) (Or.inl ⟨by rfl, ?_⟩) (by assumption) ?_
      rotate_left 1
      · (intro w hSw; obtain ⟨s7, s0, s1, s2⟩ := hSw; go_simp) <;> (with_reducible rfl)
      try simp only [Act.put, List.setIfInBounds_toArray, List.set_cons_zero, List.set_cons_succ]
      refine wpAnyH_take (i := 7) (oi := ⟨some 34, _, _, _, _, _⟩) (v := ?_) rfl (by kernel_rfl) (by kernel_rfl) (by kernel_rfl) (fun _ _ _ h => h) (Or.inl ⟨by rfl, ?_⟩) (by assumption) ?_
      rotate_left 1
      · (intro w hSw; obtain ⟨s7, s0, s1, s2⟩ := hSw; go_simp) <;> (with_reducible rfl)
      try simp only [Act.put, List.setIfInBounds_toArray, List.set_cons_zero, List.set_cons_succ]
      refine wpAnyH_take (i := 8) (oi := ⟨some 35, _, _, _, _, _⟩) (v := ?_) rfl (by kernel_rfl) (by kernel_rfl) (by kernel_rfl) (fun _ _ _ h => h) (Or.inl ⟨by rfl, ?_⟩) (by assumption) ?_
      rotate_left 1
      · (intro w hSw; obtain ⟨s7, s0, s1, s2⟩ := hSw; go_simp) <;> (with_reducible rfl)
      try simp only [Act.put, List.setIfInBounds_toArray, List.set_cons_zero, List.set_cons_succ]
      refine wpAnyH_take (i := 9) (oi := ⟨some 36, _, _, _, _, _⟩) (v := ?_) rfl (by kernel_rfl) (by kernel_rfl) (by kernel_rfl) (fun _ _ _ h => h) (Or.inl ⟨by rfl, ?_⟩) (by assumption) ?_
      rotate_left 1
      · (intro w hSw; obtain ⟨s7, s0, s1, s2⟩ := hSw; go_simp) <;> (with_reducible rfl)
      try simp only [Act.put, List.setIfInBounds_toArray, List.set_cons_zero, List.set_cons_succ]
      refine wpAnyH_take (i := 10) (oi := ⟨some 37, _, _, _, _, _⟩) (v := ?_) rfl (by kernel_rfl) (by kernel_rfl) (by kernel_rfl) (fun _ _ _ h => h) (Or.inl ⟨by rfl, ?_⟩) (by assumption) ?_
      rotate_left 1
      · (intro w hSw; obtain ⟨s7, s0, s1, s2⟩ := hSw; go_simp) <;> (with_reducible rfl)
      try simp only [Act.put, List.setIfInBounds_toArray, List.set_cons_zero, List.set_cons_succ]
      refine wpAnyH_take (i := 11) (oi := ⟨some 38, _, _, _, _, _⟩) (v := ?_) rfl (by kernel_rfl) (by kernel_rfl) (by kernel_rfl) (fun _ _ _ h => h) (Or.inl ⟨by rfl, ?_⟩) (by assumption) ?_
      rotate_left 1
      · (intro w hSw; obtain ⟨s7, s0, s1, s2⟩ := hSw; go_simp) <;> (with_reducible rfl)
      try simp only [Act.put, List.setIfInBounds_toArray, List.set_cons_zero, List.set_cons_succ]
      refine wpAnyH_take (i := 12) (oi := ⟨some 39, _, _, _, _, _⟩) (v := ?_) rfl (by kernel_rfl) (by kernel_rfl) (by kernel_rfl) (fun _ _ _ h => h) (Or.inl ⟨by rfl, ?_⟩) (by assumption) ?_
      rotate_left 1
      · (intro w hSw; obtain ⟨s7, s0, s1, s2⟩ := hSw; go_simp) <;> (with_reducible rfl)
      try simp only [Act.put, List.setIfInBounds_toArray, List.set_cons_zero, List.set_cons_succ]
      refine wpAnyH_take (i := 13) (oi := ⟨some 40, _, _, _, _, _⟩) (v := ?_) rfl (by kernel_rfl) (by kernel_rfl) (by kernel_rfl) (fun _ _ _ h => h) (Or.inl ⟨by rfl, ?_⟩) (by assumption) ?_
      rotate_left 1
      · (intro w hSw; obtain ⟨s7, s0, s1, s2⟩ := hSw; go_simp) <;> (with_reducible rfl)
      try simp only [Act.put, List.setIfInBounds_toArray, List.set_cons_zero, List.set_cons_succ]
      refine wpAnyH_take (i := 14) (oi := ⟨some 41, _, _, _, _, _⟩) (v := ?_) rfl (by kernel_rfl) (by kernel_rfl) (by kernel_rfl) (fun _ _ _ h => h) (Or.inl ⟨by rfl, ?_⟩) (by assumption) ?_
      rotate_left 1
      · (intro w hSw; obtain ⟨s7, s0, s1, s2⟩ := hSw; go_simp) <;> (with_reducible rfl)
      try simp only [Act.put, List.setIfInBounds_toArray, List.set_cons_zero, List.set_cons_succ]
      refine wpAnyH_take (i := 15) (oi := ⟨some 42, _, _, _, _, _⟩) (v := ?_) rfl (by kernel_rfl) (by kernel_rfl) (by kernel_rfl) (fun _ _ _ h => h) (Or.inl ⟨by rfl, ?_⟩) (by assumption) ?_
      rotate_left 1
      · (intro w hSw; obtain ⟨s7, s0, s1, s2⟩ := hSw; go_simp) <;> (with_reducible rfl)
      try simp only [Act.put, List.setIfInBounds_toArray, List.set_cons_zero, List.set_cons_succ]
      refine wpAnyH_take (i := 16) (oi := ⟨some 43, _, _, _, _, _⟩) (v := ?_) rfl (by kernel_rfl) (by kernel_rfl) (by kernel_rfl) (fun _ _ _ h => h) (Or.inl ⟨by rfl, ?_⟩) (by assumption) ?_
      rotate_left 1
      · (intro w hSw; obtain ⟨s7, s0, s1, s2⟩ := hSw; go_simp) <;> (with_reducible rfl)
      try simp only [Act.put, List.setIfInBounds_toArray, List.set_cons_zero, List.set_cons_succ]
      refine wpAnyH_take (i := 17) (oi := ⟨some 44, _, _, _, _, _⟩) (v := ?_) rfl (by kernel_rfl) (by kernel_rfl) (by kernel_rfl) (fun _ _ _ h => h) (Or.inl ⟨by rfl, ?_⟩) (by assumption) ?_
      rotate_left 1
      · (intro w hSw; obtain ⟨s7, s0, s1, s2⟩ := hSw; go_simp) <;> (with_reducible rfl)
      try simp only [Act.put, List.setIfInBounds_toArray, List.set_cons_zero, List.set_cons_succ]
      refine wpAnyH_take (i := 18) (oi := ⟨some 45, _, _, _, _, _⟩) (v := ?_) rfl (by kernel_rfl) (by kernel_rfl) (by kernel_rfl) (fun _ _ _ h => h) (Or.inl ⟨by rfl, ?_⟩) (by assumption) ?_
      rotate_left 1
      · (intro w hSw; obtain ⟨s7, s0, s1, s2⟩ := hSw; go_simp) <;> (with_reducible rfl)
      try simp only [Act.put, List.setIfInBounds_toArray, List.set_cons_zero, List.set_cons_succ]
      refine wpAnyH_take (i := 19) (oi := ⟨some 46, _, _, _, _, _⟩) (v := ?_) rfl (by kernel_rfl) (by kernel_rfl) (by kernel_rfl) (fun _ _ _ h => h) (Or.inl ⟨by rfl, ?_⟩) (by assumption) ?_
      rotate_left 1
      · (intro w hSw; obtain ⟨s7, s0, s1, s2⟩ := hSw; go_simp) <;> (with_reducible rfl)
      try simp only [Act.put, List.setIfInBounds_toArray, List.set_cons_zero, List.set_cons_succ]
      refine wpAnyH_take (i := 20) (oi := ⟨some 47, _, _, _, _, _⟩) (v := ?_) rfl (by kernel_rfl) (by kernel_rfl) (by kernel_rfl) (fun _ _ _ h => h) (Or.inl ⟨by rfl, ?_⟩) (by assumption) ?_
      rotate_left 1
      · (intro w hSw; obtain ⟨s7, s0, s1, s2⟩ := hSw; go_simp) <;> (with_reducible rfl)
      try simp only [Act.put, List.setIfInBounds_toArray, List.set_cons_zero, List.set_cons_succ]
      refine wpAnyH_ready (rs := [1, 21]) (by kernel_rfl) (by simp) ?_
      refine AllReadyH.cons (o := ⟨some 28, _, _, _, _, _⟩) rfl (fun K hK => ?_) (AllReadyH.cons (o := ⟨some 48, _, _, _, _, _⟩) rfl (fun K hK => ?_) AllReadyH.nil)
      · have o3 : (wr.drew).cell? ⟨w.heap.size + 1 + 1, 7, none⟩ = some (.slice A vs.length c) := HX0.out.bo.cell 7
        go_simp
        clear hHeld
        refine hK.out _ _ ?_ (fun hHeld => ?_)
        · exact HSK.out _ HX0.out.bm HX0.out.fr
        clear hK K
        try simp only [Act.put, List.setIfInBounds_toArray, List.set_cons_zero, List.set_cons_succ]
        clear o3
        refine wpAnyH_ready (rs := [21]) (by kernel_rfl) (by simp) ?_
        refine AllReadyH.cons (o := ⟨some 48, _, _, _, _, _⟩) rfl (fun K hK => ?_) AllReadyH.nil
        go_simp
        clear hHeld
        refine hK.out _ _ ?_ (fun hHeld => ?_)
        · exact HSK.out _ (HW.out.nofr (((Fr.refl NoBlk wr).alloc (.cells #[.int .i64 x.slot, .int .u64 (x.ballot : Int), .string (bstr x.value)] 62)).drew)).bm (HW.out.nofr (((Fr.refl NoBlk wr).alloc (.cells #[.int .i64 x.slot, .int .u64 (x.ballot : Int), .string (bstr x.value)] 62)).drew)).fr
        clear hK K
        try simp only [Act.put, List.setIfInBounds_toArray, List.set_cons_zero, List.set_cons_succ]
        refine wpAnyH_ready (rs := [22]) (by kernel_rfl) (by simp) ?_
        refine AllReadyH.cons (o := ⟨some 49, _, _, _, _, _⟩) rfl (fun K hK => ?_) AllReadyH.nil
        have HXe := Lib.hid (HW.out.nofr (((Fr.refl NoBlk wr).alloc (.cells #[.int .i64 x.slot, .int .u64 (x.ballot : Int), .string (bstr x.value)] 62)).drew))
        have HR8 : Hid (Rd (wr.alloc (.cells #[.int .i64 x.slot, .int .u64 (x.ballot : Int), .string (bstr x.value)] 62)).drew (some ⟨wr.heap.size, 0, none⟩) (vtc x)) := Rd.of_cells (Bk.new wr _ _)
        refine step_appO rfl _ _ 34 rfl w.heap.size 62 i0 _ 3 32 Tryd.underlying34 hi hz0 hz1 hz2 rfl (by decide) (.slice A vs.length c) vs.length (vtsc vs) rfl HXe.out.own ⟨wr.heap.size, 0, none⟩ 1 1 (vtc x) rfl rfl HR8.out ?q1 ?q2 ?q3 HXe.out.fr.size ?_
        case q1 => intro y hy; simp only [vtc, List.mem_cons, List.not_mem_nil, or_false] at hy; rcases hy with rfl | rfl | rfl <;> rfl
        case q2 => have := HVL.out; unfold maxLen; omega
        case q3 => have := HVL.out; omega
        intro v9 w9 ho9 hg9 _
        obtain ⟨A9, c9, rfl, _, _⟩ := own_form ho9
        have HG9 := Lib.hid (HXe.out.grown hg9)
        have o9 : w9.cell? ⟨w.heap.size + 1 + 1, 7, none⟩ = some (.slice A vs.length c) := HG9.out.2.2.cell 7
        have f9 := HG9.out.2.2.free 7
        have HF9 := Lib.hid (HXe.out.grownF hg9)
        have HXF := Lib.hid (HXe.out.push hg9 (x := x) ho9)
        clear ho9 hg9
        clear hHeld
        refine hK.out _ _ ?_ (fun hHeld => ?_)
        · exact HSK.out _ HG9.out.1 HF9.out
        clear hK K
        try simp only [Act.put, List.setIfInBounds_toArray, List.set_cons_zero, List.set_cons_succ]
        refine wpAnyH_take (i := 23) (oi := ⟨some 50, _, _, _, _, _⟩) (v := ?_) rfl (by kernel_rfl) (by kernel_rfl) (by kernel_rfl) (fun _ _ _ h => h) (Or.inl ⟨by rfl, ?_⟩) (by assumption) ?_
        rotate_left 1
        · (intro w hSw; obtain ⟨s7, s0, s1, s2⟩ := hSw; go_simp) <;> (with_reducible rfl)
        try simp only [Act.put, List.setIfInBounds_toArray, List.set_cons_zero, List.set_cons_succ]
        refine wpAnyH_ready (rs := [24]) (by kernel_rfl) (by simp) ?_
        refine AllReadyH.cons (o := ⟨none, _, _, _, _, _⟩) rfl (fun K hK => ?_) AllReadyH.nil
        go_simp
        clear hHeld
        refine hK.out _ _ ?_ (fun hHeld => ?_)
        · exact HSK.out _ HXF.out.bm HXF.out.fr
        clear hK K
        try simp only [Act.put, List.setIfInBounds_toArray, List.set_cons_zero, List.set_cons_succ]
        refine wpAnyH_done (by kernel_rfl) ?_ _
        have HNX := Lib.hid HXF.out
        clear HXF HXe HX0 HR8 HG9 HF9
        try clear o3
        clear o9 f9 hHeld
        go_wp2_with fail
        go_roundw
        case rel => exact ⟨k + 1, A9, c9, vs ++ [x], by omega, by go_num, HT1, HNX⟩
        case measure => simp [intOf]; omega
      · go_simp
        clear hHeld
        refine hK.out _ _ ?_ (fun hHeld => ?_)
        · exact HSK.out _ (HW.out.nofr (((Fr.refl NoBlk wr).alloc (.cells #[.int .i64 x.slot, .int .u64 (x.ballot : Int), .string (bstr x.value)] 62)).drew)).bm (HW.out.nofr (((Fr.refl NoBlk wr).alloc (.cells #[.int .i64 x.slot, .int .u64 (x.ballot : Int), .string (bstr x.value)] 62)).drew)).fr
        clear hK K
        try simp only [Act.put, List.setIfInBounds_toArray, List.set_cons_zero, List.set_cons_succ]
        refine wpAnyH_ready (rs := [1]) (by kernel_rfl) (by simp) ?_
        refine AllReadyH.cons (o := ⟨some 28, _, _, _, _, _⟩) rfl (fun K hK => ?_) AllReadyH.nil
        have o3 : ((wr.alloc (.cells #[.int .i64 x.slot, .int .u64 (x.ballot : Int), .string (bstr x.value)] 62)).drew).cell? ⟨w.heap.size + 1 + 1, 7, none⟩ = some (.slice A vs.length c) := (HW.out.nofr (((Fr.refl NoBlk wr).alloc (.cells #[.int .i64 x.slot, .int .u64 (x.ballot : Int), .string (bstr x.value)] 62)).drew)).bo.cell 7
        go_simp
        clear hHeld
        refine hK.out _ _ ?_ (fun hHeld => ?_)
        · exact HSK.out _ (HW.out.nofr (((Fr.refl NoBlk wr).alloc (.cells #[.int .i64 x.slot, .int .u64 (x.ballot : Int), .string (bstr x.value)] 62)).drew)).bm (HW.out.nofr (((Fr.refl NoBlk wr).alloc (.cells #[.int .i64 x.slot, .int .u64 (x.ballot : Int), .string (bstr x.value)] 62)).drew)).fr
        clear hK K
        try simp only [Act.put, List.setIfInBounds_toArray, List.set_cons_zero, List.set_cons_succ]
        clear o3
        refine wpAnyH_ready (rs := [22]) (by kernel_rfl) (by simp) ?_
        refine AllReadyH.cons (o := ⟨some 49, _, _, _, _, _⟩) rfl (fun K hK => ?_) AllReadyH.nil
        have HXe := Lib.hid (HW.out.nofr (((Fr.refl NoBlk wr).alloc (.cells #[.int .i64 x.slot, .int .u64 (x.ballot : Int), .string (bstr x.value)] 62)).drew))
        have HR8 : Hid (Rd (wr.alloc (.cells #[.int .i64 x.slot, .int .u64 (x.ballot : Int), .string (bstr x.value)] 62)).drew (some ⟨wr.heap.size, 0, none⟩) (vtc x)) := Rd.of_cells (Bk.new wr _ _)
        refine step_appO rfl _ _ 34 rfl w.heap.size 62 i0 _ 3 32 Tryd.underlying34 hi hz0 hz1 hz2 rfl (by decide) (.slice A vs.length c) vs.length (vtsc vs) rfl HXe.out.own ⟨wr.heap.size, 0, none⟩ 1 1 (vtc x) rfl rfl HR8.out ?q1 ?q2 ?q3 HXe.out.fr.size ?_
        case q1 => intro y hy; simp only [vtc, List.mem_cons, List.not_mem_nil, or_false] at hy; rcases hy with rfl | rfl | rfl <;> rfl
        case q2 => have := HVL.out; unfold maxLen; omega
        case q3 => have := HVL.out; omega
        intro v9 w9 ho9 hg9 _
        obtain ⟨A9, c9, rfl, _, _⟩ := own_form ho9
        have HG9 := Lib.hid (HXe.out.grown hg9)
        have o9 : w9.cell? ⟨w.heap.size + 1 + 1, 7, none⟩ = some (.slice A vs.length c) := HG9.out.2.2.cell 7
        have f9 := HG9.out.2.2.free 7
        have HF9 := Lib.hid (HXe.out.grownF hg9)
        have HXF := Lib.hid (HXe.out.push hg9 (x := x) ho9)
        clear ho9 hg9
        clear hHeld
        refine hK.out _ _ ?_ (fun hHeld => ?_)
        · exact HSK.out _ HG9.out.1 HF9.out
        clear hK K
        try simp only [Act.put, List.setIfInBounds_toArray, List.set_cons_zero, List.set_cons_succ]
        refine wpAnyH_take (i := 23) (oi := ⟨some 50, _, _, _, _, _⟩) (v := ?_) rfl (by kernel_rfl) (by kernel_rfl) (by kernel_rfl) (fun _ _ _ h => h) (Or.inl ⟨by rfl, ?_⟩) (by assumption) ?_
        rotate_left 1
        · (intro w hSw; obtain ⟨s7, s0, s1, s2⟩ := hSw; go_simp) <;> (with_reducible rfl)
        try simp only [Act.put, List.setIfInBounds_toArray, List.set_cons_zero, List.set_cons_succ]
        refine wpAnyH_ready (rs := [24]) (by kernel_rfl) (by simp) ?_
        refine AllReadyH.cons (o := ⟨none, _, _, _, _, _⟩) rfl (fun K hK => ?_) AllReadyH.nil
        go_simp
        clear hHeld
        refine hK.out _ _ ?_ (fun hHeld => ?_)
        · exact HSK.out _ HXF.out.bm HXF.out.fr
        clear hK K
        try simp only [Act.put, List.setIfInBounds_toArray, List.set_cons_zero, List.set_cons_succ]
        refine wpAnyH_done (by kernel_rfl) ?_ _
        have HNX := Lib.hid HXF.out
        clear HXF HXe HX0 HR8 HG9 HF9
        try clear o3
        clear o9 f9 hHeld
        go_wp2_with fail
        go_roundw
        case rel => exact ⟨k + 1, A9, c9, vs ++ [x], by omega, by go_num, HT1, HNX⟩
        case measure => simp [intOf]; omega
    · have HT1 : Hid (m.votes.take k = m.votes) := List.take_of_length_le (by omega)
      have hvs : vs = m.votes := HT.out.trans HT1.out
      subst hvs
      clear HT HT1
      obtain ⟨gr, hgr⟩ : ∃ gr, gr = w.heap.size + 1 := ⟨_, rfl⟩
      obtain ⟨go, hgo⟩ : ∃ go, go = w.heap.size + 1 + 1 := ⟨_, rfl⟩
      have hres : Bk wr gr 36 zRef := by rw [hgr]; exact HW.out.br
      have hbo : Bk wr go 36 (mga { m with va := A, vc := c }) := by rw [hgo]; exact HW.out.bo
      have p0 : wr.cell? ⟨go, 0, none⟩ = some (.int .i64 m.kind) := hbo.cell 0
      have r0 : wr.cell? ⟨gr, 0, none⟩ = some (.int .i64 0) := hres.cell 0
      have s0 := hres.free 0
      have p1 : wr.cell? ⟨go, 1, none⟩ = some (.int .i64 m.frm) := hbo.cell 1
      have r1 : wr.cell? ⟨gr, 1, none⟩ = some (.int .i64 0) := hres.cell 1
      have s1 := hres.free 1
      have p2 : wr.cell? ⟨go, 2, none⟩ = some (.int .i64 m.dst) := hbo.cell 2
      have r2 : wr.cell? ⟨gr, 2, none⟩ = some (.int .i64 0) := hres.cell 2
      have s2 := hres.free 2
      have p3 : wr.cell? ⟨go, 3, none⟩ = some (.int .i64 m.grp) := hbo.cell 3
      have r3 : wr.cell? ⟨gr, 3, none⟩ = some (.int .i64 0) := hres.cell 3
      have s3 := hres.free 3
      have p4 : wr.cell? ⟨go, 4, none⟩ = some (.int .i64 m.slot) := hbo.cell 4
      have r4 : wr.cell? ⟨gr, 4, none⟩ = some (.int .i64 0) := hres.cell 4
      have s4 := hres.free 4
      have p5 : wr.cell? ⟨go, 5, none⟩ = some (.int .u64 (m.ballot : Int)) := hbo.cell 5
      have r5 : wr.cell? ⟨gr, 5, none⟩ = some (.int .u64 0) := hres.cell 5
      have s5 := hres.free 5
      have p6 : wr.cell? ⟨go, 6, none⟩ = some (.string (bstr m.value)) := hbo.cell 6
      have r6 : wr.cell? ⟨gr, 6, none⟩ = some (.string { data := #[] }) := hres.cell 6
      have s6 := hres.free 6
      have p7 : wr.cell? ⟨go, 7, none⟩ = some (.slice A m.votes.length c) := hbo.cell 7
      have r7 : wr.cell? ⟨gr, 7, none⟩ = some (.slice none 0 0) := hres.cell 7
      have s7 := hres.free 7
      obtain ⟨wz, hwz⟩ : ∃ wz, wz = ((((((((wr.setCell ⟨gr, 0, none⟩ (.int .i64 m.kind)).setCell ⟨gr, 1, none⟩ (.int .i64 m.frm)).setCell ⟨gr, 2, none⟩ (.int .i64 m.dst)).setCell ⟨gr, 3, none⟩ (.int .i64 m.grp)).setCell ⟨gr, 4, none⟩ (.int .i64 m.slot)).setCell ⟨gr, 5, none⟩ (.int .u64 (m.ballot : Int))).setCell ⟨gr, 6, none⟩ (.string (bstr m.value))).setCell ⟨gr, 7, none⟩ (.slice A m.votes.length c)) := ⟨_, rfl⟩
      have hfz : Fr (fun k => k = gr) wr wz := by
        rw [hwz]
        exact (((((((((Fr.refl (fun k => k = gr) wr).setCell (p := ⟨gr, 0, none⟩) (fun _ => rfl) _).setCell (p := ⟨gr, 1, none⟩) (fun _ => rfl) _).setCell (p := ⟨gr, 2, none⟩) (fun _ => rfl) _).setCell (p := ⟨gr, 3, none⟩) (fun _ => rfl) _).setCell (p := ⟨gr, 4, none⟩) (fun _ => rfl) _).setCell (p := ⟨gr, 5, none⟩) (fun _ => rfl) _).setCell (p := ⟨gr, 6, none⟩) (fun _ => rfl) _).setCell (p := ⟨gr, 7, none⟩) (fun _ => rfl) _)
      have HBZ : Hid (Bk wz gr 36 (mga { m with va := A, vc := c })) := by
        show Bk _ _ _ _
        rw [hwz]
        refine Bk.cast ((((((((hres.put 0 (.int .i64 m.kind)).put 1 (.int .i64 m.frm)).put 2 (.int .i64 m.dst)).put 3 (.int .i64 m.grp)).put 4 (.int .i64 m.slot)).put 5 (.int .u64 (m.ballot : Int))).put 6 (.string (bstr m.value))).put 7 (.slice A m.votes.length c)) ?_
        unfold zRef mga
        simp only [List.setIfInBounds_toArray, List.set_cons_zero, List.set_cons_succ]
      have HPO : Hid (OfPost w m wz { m with va := A, vc := c }) := ⟨⟨rfl, rfl, rfl, rfl, rfl, rfl, rfl, rfl⟩, own_fr HW.out.own hfz (fun k hk e => own_apart HW.out.own hres (by decide) (e ▸ hk)), HW.out.fr.step hfz (fun k hk e => by omega)⟩
      have HWZ := Lib.hid hwz
      have c7' : wr.cell? ⟨w.heap.size, 7, none⟩ = some (.slice m.va m.votes.length m.vc) := c7
      clear hwz hfz hres hbo HW
      rw [← hgo, ← hgr]
      clear hgr hgo
      go_wp2_with fail
      rw [← HWZ.out]
      clear HWZ
      have z0 : wz.cell? ⟨gr, 0, none⟩ = some (.int .i64 m.kind) := HBZ.out.cell 0
      have z1 : wz.cell? ⟨gr, 1, none⟩ = some (.int .i64 m.frm) := HBZ.out.cell 1
      have z2 : wz.cell? ⟨gr, 2, none⟩ = some (.int .i64 m.dst) := HBZ.out.cell 2
      have z3 : wz.cell? ⟨gr, 3, none⟩ = some (.int .i64 m.grp) := HBZ.out.cell 3
      have z4 : wz.cell? ⟨gr, 4, none⟩ = some (.int .i64 m.slot) := HBZ.out.cell 4
      have z5 : wz.cell? ⟨gr, 5, none⟩ = some (.int .u64 (m.ballot : Int)) := HBZ.out.cell 5
      have z6 : wz.cell? ⟨gr, 6, none⟩ = some (.string (bstr m.value)) := HBZ.out.cell 6
      have z7 : wz.cell? ⟨gr, 7, none⟩ = some (.slice A m.votes.length c) := HBZ.out.cell 7
      refine bodyPost_ret (v := mgv { m with va := A, vc := c }) ?_ rfl ⟨_, rfl, HPO.out⟩
      unfold mgv mga
      simp [results, Tryd.results12, go_sem, z0, z1, z2, z3, z4, z5, z6, z7]
end Go.Proofs.YtdpjmkgjjhcgeaaDoor
