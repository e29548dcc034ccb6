/- A node's clone: a tree of its own with the same keys and values. Conditions: as the tree's shape has them. -/
import Derived.Test.YtcpgonioobgpoaaDt2
import Derived.Deep.RegionHeld3
namespace Go.Proofs.Ytcpgonioobgpoaa
open Go.RowKit
theorem ptrInfoS : (Try.prog.info? 63).map (fun i => (i.zero, i.size, i.bytes)) = some (some (.pointer none), 1, 8) := by kernel_rfl
theorem RowW.nils {w : World} {base : Nat} {e : TypeId} {size n c : Nat} {A : Option Addr} {xs : List Value} (h : RowW w base e size (.slice A n c) n xs) : A = none → c = 0 ∧ n = 0 := fun e => by
  obtain ⟨A', c', e1, h1, h2⟩ := h.form
  injection e1 with e1 e2 e3
  subst e1 e3
  have := h2 e
  exact ⟨this, by omega⟩
def CloneP (w : World) {d : Nat} (t : Tr ItS d) (e : Ending) (w' : World) : Prop :=
  ∃ t' : Tr ItS d, e = .returned (.pointer (some ⟨t'.g, 0, none⟩)) ∧ t'.ok tkS w' ∧ t'.flat = t.flat ∧ t'.n = t.n ∧ (∀ b, t'.own b → w.heap.size ≤ b) ∧ Fr NoBlk w w'
theorem own_ptrs_one (ps : List Nat) : ∀ u ∈ ps.map ptr, u.oneCell' = true := by
  intro u hu
  obtain ⟨p, _, rfl⟩ := List.mem_map.1 hu
  rfl
/-- a clone being made: its node g with items' row A and children's row B; the children ks so far. -/
structure Clo (w w1 : World) (g : Nat) (A : Option Addr) (n c : Nat) (B : Option Addr) (e : Nat) (xs : List ItS) {d : Nat} (ks : List (Tr ItS d)) (wr : World) : Prop where
  bk : Bk wr g 67 #[.slice A n c, .slice B ks.length e]
  ri : RowW wr w.heap.size 72 2 (.slice A n c) n (itsS xs)
  rp : wr.ownsRow w.heap.size 63 1 (.slice B ks.length e) ks.length ((ks.map Tr.g).map ptr)
  gl : w.heap.size ≤ g ∧ g < w1.heap.size
  al : ∀ b, ablk A b → b < w1.heap.size
  kid : ∀ q ∈ ks, q.ok tkS wr ∧ (8 ≤ q.n ∧ q.n ≤ 16) ∧ (∀ b, q.own b → w1.heap.size ≤ b) ∧ ∀ b, q.own b → ¬ ablk B b
  pw : ks.Pairwise fun k k' => Dj k.own k'.own
  fr : Fr NoBlk w wr
  f1 : w1.heap.size ≤ wr.heap.size
section
variable {w w1 wr w' : World} {g n c e : Nat} {A B : Option Addr} {xs : List ItS} {d : Nat} {ks : List (Tr ItS d)}
theorem Clo.nofr (h : Clo w w1 g A n c B e xs ks wr) (hf : Fr NoBlk wr w') : Clo w w1 g A n c B e xs ks w' :=
  ⟨h.bk.fr hf fun e => e, h.ri.fr hf fun _ _ e => e, own_fr h.rp hf fun _ _ e => e, h.gl, h.al, fun q hq => ⟨(h.kid q hq).1.fr hf fun _ _ e => e, (h.kid q hq).2⟩, h.pw, h.fr.trans hf, Nat.le_trans h.f1 hf.size⟩
/-- a child more. -/
theorem Clo.push (h : Clo w w1 g A n c B e xs ks wr) {wa wb : World} {q : Tr ItS d} (ho : q.ok tkS wa) (h8 : 8 ≤ q.n ∧ q.n ≤ 16) (hn : ∀ b, q.own b → wr.heap.size ≤ b) (hf : Fr NoBlk wr wa)
    {B' : Option Addr} {m e' : Nat} (hm : m = ks.length + 1) {wd : World} (hd : Fr NoBlk wa wd) (hr : wb.ownsRow w.heap.size 63 1 (.slice B' m e') m ((ks.map Tr.g).map ptr ++ [ptr q.g]))
    (hg : wd.grownBy wb (Value.slice B ks.length e).ownBlock) (hb : (Value.slice B' m e').ownBlock = (Value.slice B ks.length e).ownBlock ∨ (Value.slice B' m e').ownBlock = some wd.heap.size) :
    Clo w w1 g A n c B' e' xs (ks ++ [q]) (wb.setCell ⟨g, 1, none⟩ (.slice B' m e')) := by
  have had := hf.trans hd
  have h2 := h.nofr had
  have hBd : ∀ b, (Value.slice B ks.length e).ownBlock = some b → w.heap.size ≤ b ∧ b < wr.heap.size := fun b hb => h.rp.lt b hb
  have hgd : Fr (fun b => some b = (Value.slice B ks.length e).ownBlock) wd wb := Fr.ofGrown hg
  have hgB : (Value.slice B ks.length e).ownBlock ≠ some g := own_apart h.rp h.bk (by decide)
  have hs : Fr (fun b => b = g) wb (wb.setCell ⟨g, 1, none⟩ (.slice B' m e')) := (Fr.refl (fun b => b = g) wb).setCell (p := ⟨g, 1, none⟩) (fun _ => rfl) _
  have hall : Fr (fun b => some b = (Value.slice B ks.length e).ownBlock ∨ b = g) wd (wb.setCell ⟨g, 1, none⟩ (.slice B' m e')) := (hgd.mono fun _ _ x => .inl x).step hs fun _ _ x => .inr x
  have hsz1 := had.size
  have hsz2 := hgd.size
  have hB' : ∀ b, ablk B' b → ablk B b ∨ wd.heap.size ≤ b := fun b hb' => by
    have h1 := ablk_own (n := m) (c := e') hb'
    rcases hb with hb | hb
    · rw [hb] at h1
      exact .inl (own_ablk h1)
    · rw [hb] at h1
      injection h1 with h1
      exact .inr (by omega)
  have hnB : ∀ b, q.own b → ¬ ablk B b := fun b hq hb2 => by
    have := (hBd b (ablk_own hb2)).2
    have := hn b hq
    omega
  have hkid : ∀ p ∈ ks, ∀ b, p.own b → ¬ (some b = (Value.slice B ks.length e).ownBlock ∨ b = g) := fun p hp b hb2 x => by
    rcases x with x | x
    · exact (h.kid p hp).2.2.2 b hb2 (own_ablk x.symm)
    · have := (h.kid p hp).2.2.1 b hb2; have := h.gl.2; omega
  have hqn : ∀ b, q.own b → ¬ (some b = (Value.slice B ks.length e).ownBlock ∨ b = g) := fun b hb2 x => by
    rcases x with x | x
    · exact hnB b hb2 (own_ablk x.symm)
    · have := hn b hb2; have := h.gl.2; have := h.f1; omega
  refine ⟨?_, h2.ri.fr hall ?_, ?_, h.gl, h.al, ?_, ?_, ?_, ?_⟩
  · have hbk : Bk wb g 67 #[.slice A n c, .slice B ks.length e] := h2.bk.fr hgd fun x => hgB x.symm
    have := hbk.put 1 (.slice B' m e')
    rw [List.length_append]
    subst hm
    exact this
  · intro b hb2 x
    rcases x with x | x
    · obtain ⟨cur, h3⟩ := h.ri.blk' hb2
      exact own_apart h.rp h3 (by decide) x.symm
    · subst x
      obtain ⟨cur, h3⟩ := h.ri.blk' hb2
      exact h.bk.apart h3 (by decide) rfl
  · have hr2 := own_fr hr hs fun b hb2 x => own_apart hr (h2.bk.fr hgd fun x => hgB x.symm) (by decide) (x ▸ hb2)
    rw [List.length_append, List.map_append, List.map_append]
    subst hm
    exact hr2
  · intro p hp
    rcases List.mem_append.1 hp with hp | hp
    · refine ⟨(h2.kid p hp).1.fr hall (hkid p hp), (h.kid p hp).2.1, (h.kid p hp).2.2.1, fun b hb2 x => ?_⟩
      rcases hB' b x with x | x
      · exact (h.kid p hp).2.2.2 b hb2 x
      · have := (h.kid p hp).1.lt hb2; omega
    · obtain rfl := List.mem_singleton.1 hp
      refine ⟨(ho.fr hd fun _ _ x => x).fr hall hqn, h8, fun b hb2 => Nat.le_trans h.f1 (hn b hb2), fun b hb2 x => ?_⟩
      rcases hB' b x with x | x
      · exact hnB b hb2 x
      · have := ho.lt hb2; have := hd.size; omega
  · rw [List.pairwise_append]
    refine ⟨h.pw, List.pairwise_singleton _ _, fun p hp p' hp' => ?_⟩
    obtain rfl := List.mem_singleton.1 hp'
    exact fun b x y => by have := (h.kid p hp).1.lt x; have := hn b y; omega
  · refine (h.fr.trans had).step hall fun b hb2 x => ?_
    rcases x with x | x
    · have := (hBd b x.symm).1; omega
    · have := h.gl.1; omega
  · have := hs.size; have := h.f1; omega
/-- the clone is whole. -/
theorem Clo.done {w1 : World} (h : Clo w w1 g A n c B e xs ks wr) {hd : Hd ItS} {ks0 : List (Tr ItS d)} (hx : hd.xs = xs) (hn : n = xs.length) (hk : ks.map Tr.flat = ks0.map Tr.flat) (hl : ks0.length = hd.xs.length + 1) :
    CloneP w (Tr.node hd ks0) (.returned (.pointer (some ⟨g, 0, none⟩))) wr := by
  subst hx hn
  have hll : ks.length = ks0.length := by have := congrArg List.length hk; simpa using this
  refine ⟨Tr.node ⟨g, A, c, B, e, hd.xs⟩ ks, rfl, Tr.mk_ok ?_ (fun q hq => ⟨(h.kid q hq).1, (h.kid q hq).2.1, fun b x y => ?_⟩) h.pw (by show ks.length = hd.xs.length + 1; omega), ?_, rfl, fun b hb => ?_, h.fr⟩
  · refine Hd.lies_mk (κ := tkS) h.bk (h.ri.low (Nat.zero_le _)) ((RowW.ofOwn h.rp (own_ptrs_one _)).low (Nat.zero_le _)) rfl (by rw [List.length_map]) rfl rfl
  · rcases x with x | x | x
    · have := (h.kid q hq).2.2.1 b y; have := h.gl.2; have : b = g := x; omega
    · have := (h.kid q hq).2.2.1 b y; have := h.al b x; omega
    · exact (h.kid q hq).2.2.2 b y x
  · show weave (ks.map Tr.flat) hd.xs = weave (ks0.map Tr.flat) hd.xs
    rw [hk]
  · rcases hb with (x | x | x) | ⟨q, hq, x⟩
    · have : b = g := x; have := h.gl.1; omega
    · exact (h.ri.lt (ablk_own x)).1
    · exact (h.rp.lt b (ablk_own x)).1
    · have := (h.kid q hq).2.2.1 b x; have := h.gl; omega
end
theorem take_snoc {α : Type} {L : List α} {k : Nat} {x : α} (h : L[k]? = some x) : L.take (k + 1) = L.take k ++ [x] := by rw [List.take_add_one, h]; rfl
set_option maxRecDepth 100000 in
set_option maxHeartbeats 1000000 in
theorem nodeCloneS_any : ∀ {d : Nat} (w : World) (t : Tr ItS d), t.ok tkS w → t.n ≤ 16 → Calls Try.prog 44 #[.pointer (some ⟨t.g, 0, none⟩)] w (CloneP w t) := by
  intro d
  induction d with
  | zero =>
    intro w t o h16
    obtain ⟨hg, hA, hc, hB, he, hxs⟩ := t
    obtain ⟨b1, b2, b3⟩ : (Hd.mk hg hA hc hB he hxs).lies tkS w [] := o.lies
    unfold tkS at b1 b2 b3
    dsimp only at b1 b2 b3
    obtain ⟨n, hn⟩ : ∃ n, n = hxs.length := ⟨_, rfl⟩
    have h16' : n ≤ 16 := by rw [hn]; exact h16
    rw [← hn] at b1 b2
    have HCL := Lib.hid (cloneS_any w hA hc n (itsS hxs) (by rw [itsS_len, hn]) (itsS_one _) b2.rd b2.nils (by omega))
    have c0 : w.cell? ⟨hg, 0, none⟩ = some (.slice hA n hc) := b1.cell 0
    have HB1 := Lib.hid b1
    have HN := Lib.hid hn
    clear b1 b2 b3 o h16 hn
    show Calls _ _ #[.pointer (some ⟨hg, 0, none⟩)] _ _
    go_enter Try.func44, Try.ntmps44
    go_wp2_with fail
    refine HCL.out.mono ?_
    clear HCL
    rintro e w1 ⟨A1, c1, rfl, hr1, hf1⟩
    have HR1 := Lib.hid hr1
    have HF1 := Lib.hid hf1
    obtain ⟨w2, hw2⟩ : ∃ w2, w2 = w1.alloc (.cells #[.slice A1 n c1, .slice none 0 0] 67) := ⟨_, rfl⟩
    have HF2 : Hid (Fr NoBlk w1 w2) := by show Fr _ _ _; rw [hw2]; exact (Fr.refl _ _).alloc _
    have HB2 : Hid (Bk w2 w1.heap.size 67 #[.slice A1 n c1, .slice none 0 0]) := by show Bk _ _ _ _; rw [hw2]; exact Bk.new _ _ _
    have cc : (w1.alloc (.cells #[.slice A1 n c1, .slice none 0 0] 67)).cell? ⟨hg, 1, none⟩ = some (.slice hB 0 he) := by rw [← hw2]; exact (HB1.out.fr (hf1.trans HF2.out) fun e => e).cell 1
    have HW2 := Lib.hid hw2
    clear hr1 hf1 c0 hw2
    go_wp2_with fail
    rw [← HW2.out]
    clear HW2 cc
    go_loopw [18] (fun i wr => i = .int .i64 0 ∧ w2 = wr) (fun _ _ => 0)
    case atStart => exact ⟨rfl, rfl⟩
    case round =>
      obtain ⟨rfl, rfl⟩ := hrel
      go_wp2_with fail
      go_ret
      refine ⟨(⟨w1.heap.size, A1, c1, none, 0, hxs⟩ : Hd ItS), rfl, ⟨Hd.lies_mk (κ := tkS) (ps := []) HB2.out ((HR1.out.fr HF2.out fun _ _ e => e).low (Nat.zero_le _)) (RowW.nil _ _ _ _) HN.out rfl rfl rfl, trivial, trivial⟩, rfl, rfl, fun b hb => ?_, HF1.out.trans HF2.out⟩
      rcases hb with rfl | hb | hb
      · exact HF1.out.size
      · exact (HR1.out.lt (ablk_own hb)).1
      · obtain ⟨_, e, _⟩ := hb; cases e
  | succ d ih =>
    intro w t o h16
    obtain ⟨⟨hg, hA, hc, hB, he, hxs⟩, ks⟩ := t
    obtain ⟨b1, b2, b3⟩ : (Hd.mk hg hA hc hB he hxs).lies tkS w (ks.map Tr.g) := o.lies.1
    unfold tkS at b1 b2 b3
    dsimp only at b1 b2 b3
    obtain ⟨i1, hi, hz0, hz1, hz2⟩ := info_partsR ptrInfoS
    obtain ⟨n, hn⟩ : ∃ n, n = hxs.length := ⟨_, rfl⟩
    obtain ⟨np, hnp⟩ : ∃ np, np = ks.length := ⟨_, rfl⟩
    have h16' : n ≤ 16 := by rw [hn]; exact h16
    have hks : ks.length = hxs.length + 1 := o.shape.1
    have hnp2 : np = n + 1 := by omega
    rw [List.length_map, ← hnp] at b1 b3
    rw [← hn] at b1 b2
    have HCL := Lib.hid (cloneS_any w hA hc n (itsS hxs) (by rw [itsS_len, hn]) (itsS_one _) b2.rd b2.nils (by omega))
    have c0 : w.cell? ⟨hg, 0, none⟩ = some (.slice hA n hc) := b1.cell 0
    have HB1 := Lib.hid b1
    obtain ⟨pb, rfl⟩ := b3.addr (by omega)
    have HP3 := Lib.hid b3
    have HN := Lib.hid hn
    have HNP := Lib.hid hnp
    have HKS := Lib.hid hks
    have HO := Lib.hid o
    have IH := Lib.hid @ih
    clear b1 b2 b3 o h16 hn hnp hks ih
    show Calls _ _ #[.pointer (some ⟨hg, 0, none⟩)] _ _
    go_enter Try.func44, Try.ntmps44
    go_wp2_with fail
    refine HCL.out.mono ?_
    clear HCL
    rintro e w1 ⟨A1, c1, rfl, hr1, hf1⟩
    obtain ⟨g, hgg⟩ : ∃ g, g = w1.heap.size := ⟨_, rfl⟩
    obtain ⟨w2, hw2⟩ : ∃ w2, w2 = w1.alloc (.cells #[.slice A1 n c1, .slice none 0 0] 67) := ⟨_, rfl⟩
    have hf2 : Fr NoBlk w1 w2 := by rw [hw2]; exact (Fr.refl _ _).alloc _
    have hb2 : Bk w2 g 67 #[.slice A1 n c1, .slice none 0 0] := by rw [hw2, hgg]; exact Bk.new _ _ _
    have HI0 : Hid (Clo w w2 g A1 n c1 none 0 hxs ([] : List (Tr ItS d)) w2) := ⟨hb2, hr1.fr hf2 fun _ _ e => e, ⟨rfl, .inl ⟨rfl, rfl⟩⟩, ⟨by rw [hgg]; exact hf1.size, hb2.lt⟩, fun b hb => Nat.lt_of_lt_of_le (hr1.lt (ablk_own hb)).2 hf2.size, (fun _ h => by cases h), List.Pairwise.nil, hf1.trans hf2, Nat.le_refl _⟩
    have cc : (w1.alloc (.cells #[.slice A1 n c1, .slice none 0 0] 67)).cell? ⟨hg, 1, none⟩ = some (.slice (some ⟨pb, 0, none⟩) np he) := by rw [← hw2]; exact (HB1.out.fr (hf1.trans hf2) fun e => e).cell 1
    have HW2 := Lib.hid hw2
    have HGG := Lib.hid hgg
    clear hr1 hf1 c0 hw2 hf2 hb2 hgg
    go_wp2_with fail
    rw [← HW2.out, ← HGG.out]
    clear HW2 HGG cc
    go_loopw [18] (fun i wr => ∃ (k : Nat) (qs : List (Tr ItS d)) (B : Option Addr) (e : Nat), i = .int .i64 (k : Int) ∧ k ≤ np ∧ Hid (Clo w w2 g A1 n c1 B e hxs qs wr ∧ qs.length = k ∧ qs.map Tr.flat = (ks.take k).map Tr.flat)) (fun i _ => (np - intOf i).toNat)
    case atStart => exact ⟨0, [], none, 0, rfl, Nat.zero_le _, HI0.out, rfl, rfl⟩
    case round =>
      clear HI0
      obtain ⟨k, qs, B, e, rfl, hk, HI⟩ := hrel
      have hwr : IntKind.i64.wrap ((k : Int) + 1) = (k : Int) + 1 := IntWalk.i64_in _ (by omega)
      by_cases hkn : k < np
      · have hki : (k : Int) < (np : Int) := by omega
        obtain ⟨t, ht⟩ : ∃ t, ks[k]? = some t := ⟨_, List.getElem?_eq_getElem (by rw [← HNP.out]; exact hkn)⟩
        have htm := List.mem_of_getElem? ht
        have d0 : wr.cell? ⟨pb, k, none⟩ = some (.pointer (some ⟨t.g, 0, none⟩)) := (HP3.out.fr HI.out.1.fr fun _ _ e => e).cellP (by rw [List.getElem?_map, ht]; rfl)
        have HQ : Hid (qs.length = k) := HI.out.2.1
        have HK8 : Hid (8 ≤ t.n ∧ t.n ≤ 16) := (HO.out.kid htm).2
        have HTO : Hid (Calls Try.prog 44 #[.pointer (some ⟨t.g, 0, none⟩)] wr.drew (CloneP wr.drew t)) := IH.out wr.drew t ((HO.out.kid htm).1.fr (HI.out.1.fr.drew) fun _ _ e => e) HK8.out.2
        have HTK := Lib.hid (take_snoc ht)
        obtain ⟨tg, htg⟩ : ∃ tg, tg = t.g := ⟨_, rfl⟩
        rw [← htg] at d0 HTO
        have HI1 := Lib.hid (HI.out.1.nofr (Fr.refl NoBlk wr).drew)
        have HFL := Lib.hid HI.out.2.2
        have TC : Hid (∀ W, Fr NoBlk wr.drew W → W.cell? ⟨g, 1, none⟩ = some (.slice B k e)) := fun W hW => by
          have h := (HI1.out.nofr hW).bk.cell 1
          rw [HQ.out] at h
          exact h
        clear ht htm htg HI
        go_wp2_with fail
        refine wp_region_held_drew (S := fun _ => True) (by kernel_rfl) trivial (fun hHeld => ?_)
        refine wpAnyH_take (i := 0) (oi := ⟨some 22, _, _, _, _, _⟩) (v := ?_) rfl (by kernel_rfl) (by kernel_rfl) (by kernel_rfl) (fun _ _ _ h => h) (Or.inl ⟨by rfl, ?_⟩) (by assumption) ?_
        rotate_left 1
        · (intro w hSw; (try dsimp only at hSw); go_simp) <;> (with_reducible rfl)
        try simp only [Act.put, List.setIfInBounds_toArray, List.set_cons_zero, List.set_cons_succ]
        refine wpAnyH_take (i := 1) (oi := ⟨some 23, _, _, _, _, _⟩) (v := ?_) rfl (by kernel_rfl) (by kernel_rfl) (by kernel_rfl) (fun _ _ _ h => h) (Or.inl ⟨by rfl, ?_⟩) (by assumption) ?_
        rotate_left 1
        · (intro w hSw; (try dsimp only at hSw); go_simp) <;> (with_reducible rfl)
        try simp only [Act.put, List.setIfInBounds_toArray, List.set_cons_zero, List.set_cons_succ]
        refine wpAnyH_take (i := 2) (oi := ⟨some 24, _, _, _, _, _⟩) (v := ?_) rfl (by kernel_rfl) (by kernel_rfl) (by kernel_rfl) (fun _ _ _ h => h) (Or.inl ⟨by rfl, ?_⟩) (by assumption) ?_
        rotate_left 1
        · (intro w hSw; (try dsimp only at hSw); go_simp) <;> (with_reducible rfl)
        try simp only [Act.put, List.setIfInBounds_toArray, List.set_cons_zero, List.set_cons_succ]
        refine wpAnyH_take (i := 3) (oi := ⟨some 25, _, _, _, _, _⟩) (v := ?_) rfl (by kernel_rfl) (by kernel_rfl) (by kernel_rfl) (fun _ _ _ h => h) (Or.inl ⟨by rfl, ?_⟩) (by assumption) ?_
        rotate_left 1
        · (intro w hSw; (try dsimp only at hSw); go_simp) <;> (with_reducible rfl)
        try simp only [Act.put, List.setIfInBounds_toArray, List.set_cons_zero, List.set_cons_succ]
        refine wpAnyH_take (i := 5) (oi := ⟨some 27, _, _, _, _, _⟩) (v := ?_) rfl (by kernel_rfl) (by kernel_rfl) (by kernel_rfl) (fun _ _ _ h => h) (Or.inl ⟨by rfl, ?_⟩) (by assumption) ?_
        rotate_left 1
        · (intro w hSw; (try dsimp only at hSw); go_simp) <;> (with_reducible rfl)
        try simp only [Act.put, List.setIfInBounds_toArray, List.set_cons_zero, List.set_cons_succ]
        refine wpAnyH_ready (rs := [4, 6]) (by kernel_rfl) (by simp) ?_
        refine AllReadyH.cons (o := ⟨some 26, _, _, _, _, _⟩) rfl (fun K hK => ?_) (AllReadyH.cons (o := ⟨some 28, _, _, _, _, _⟩) rfl (fun K hK => ?_) AllReadyH.nil)
        · have cX := TC.out _ (Fr.refl _ wr.drew)
          have cY : wr.cell? ⟨g, 1, none⟩ = some (.slice B k e) := cX
          go_simp
          clear hHeld
          refine hK.out _ _ trivial (fun hHeld => ?_)
          clear hK K cX cY
          try simp only [Act.put, List.setIfInBounds_toArray, List.set_cons_zero, List.set_cons_succ]
          refine wpAnyH_ready (rs := [6]) (by kernel_rfl) (by simp) ?_
          refine AllReadyH.cons (o := ⟨some 28, _, _, _, _, _⟩) rfl (fun K hK => ?_) AllReadyH.nil
          go_simp
          go_at_call 44
          refine HTO.out.mono ?_
          rintro _ wc ⟨q, rfl, ho, hfl, hqn, hqo, hf⟩
          have HFC := Lib.hid hf
          have HQO := Lib.hid (And.intro ho (And.intro hfl (And.intro hqn hqo)))
          obtain ⟨qg, hqg⟩ : ∃ qg, qg = q.g := ⟨_, rfl⟩
          rw [← hqg]
          have HQG := Lib.hid hqg
          clear ho hfl hqn hqo hf hqg hHeld
          refine hK.out _ _ trivial (fun hHeld => ?_)
          clear hK K
          try simp only [Act.put, List.setIfInBounds_toArray, List.set_cons_zero, List.set_cons_succ]
          refine wpAnyH_ready (rs := [7]) (by kernel_rfl) (by simp) ?_
          refine AllReadyH.cons (o := ⟨some 29, _, _, _, _, _⟩) rfl (fun K hK => ?_) AllReadyH.nil
          go_simp
          clear hHeld
          refine hK.out _ _ trivial (fun hHeld => ?_)
          clear hK K
          try simp only [Act.put, List.setIfInBounds_toArray, List.set_cons_zero, List.set_cons_succ]
          refine wpAnyH_ready (rs := [8]) (by kernel_rfl) (by simp) ?_
          refine AllReadyH.cons (o := ⟨some 30, _, _, _, _, _⟩) rfl (fun K hK => ?_) AllReadyH.nil
          have HRS : Hid (Rd (wc.alloc (.cells #[.pointer (some ⟨qg, 0, none⟩)] 63)) (some ⟨wc.heap.size, 0, none⟩) [ptr qg]) := Rd.of_cells (Bk.new wc 63 #[.pointer (some ⟨qg, 0, none⟩)])
          have HFD : Hid (Fr NoBlk wr.drew (wc.alloc (.cells #[.pointer (some ⟨qg, 0, none⟩)] 63))) := HFC.out.alloc _
          have HRP : Hid ((wc.alloc (.cells #[.pointer (some ⟨qg, 0, none⟩)] 63)).ownsRow w.heap.size 63 1 (.slice B k e) k ((qs.map Tr.g).map ptr)) := by
            have h := (HI1.out.nofr HFD.out).rp
            rw [HQ.out] at h
            exact h
          refine step_appW rfl _ _ 65 rfl w.heap.size 63 i1 _ 1 8 Try.underlying65 hi hz0 hz1 hz2 rfl (by decide) (.slice B k e) k ((qs.map Tr.g).map ptr) rfl HRP.out (some ⟨wc.heap.size, 0, none⟩) 1 1 [ptr qg] rfl rfl HRS.out (own_ptrs_one [qg]) (fun e => by cases e) (by unfold maxLen; omega) (by omega) (HI1.out.nofr HFD.out).fr.size ?_
          intro v8 w8 ho8 hg8 hb8
          obtain ⟨B8, e8, rfl, _, _⟩ := own_form ho8
          have HCL8 : Hid (Clo w w2 g A1 n c1 B8 e8 hxs (qs ++ [q]) (w8.setCell ⟨g, 1, none⟩ (.slice B8 (k + 1) e8))) := HI1.out.push HQO.out.1 (by rw [HQO.out.2.2.1]; exact HK8.out) HQO.out.2.2.2 HFC.out (by rw [HQ.out]) ((Fr.refl _ _).alloc _) (by rw [← HQG.out]; exact ho8) (by rw [HQ.out]; exact hg8) (by rw [HQ.out]; exact hb8)
          have cX : w8.cell? ⟨g, 1, none⟩ = some (.slice B k e) := by
            have h1 := (Fr.ofGrown hg8).cell (p := ⟨g, 1, none⟩) (HI1.out.nofr HFD.out).bk.lt (fun x => own_apart HRP.out (HI1.out.nofr HFD.out).bk (by decide) x.symm)
            exact h1.trans (TC.out _ HFD.out)
          have fX : w8.frozen? ⟨g, 1, none⟩ = false := by
            have h1 := (Fr.ofGrown hg8).frozen (p := ⟨g, 1, none⟩) (HI1.out.nofr HFD.out).bk.lt (fun x => own_apart HRP.out (HI1.out.nofr HFD.out).bk (by decide) x.symm)
            exact h1.trans ((HI1.out.nofr HFD.out).bk.free 1)
          clear ho8 hg8 hb8 hHeld
          refine hK.out _ _ trivial (fun hHeld => ?_)
          clear hK K
          try simp only [Act.put, List.setIfInBounds_toArray, List.set_cons_zero, List.set_cons_succ]
          refine wpAnyH_take (i := 9) (oi := ⟨some 31, _, _, _, _, _⟩) (v := ?_) rfl (by kernel_rfl) (by kernel_rfl) (by kernel_rfl) (fun _ _ _ h => h) (Or.inl ⟨by rfl, ?_⟩) (by assumption) ?_
          rotate_left 1
          · (intro w hSw; (try dsimp only at hSw); go_simp) <;> (with_reducible rfl)
          try simp only [Act.put, List.setIfInBounds_toArray, List.set_cons_zero, List.set_cons_succ]
          refine wpAnyH_take (i := 10) (oi := ⟨some 32, _, _, _, _, _⟩) (v := ?_) rfl (by kernel_rfl) (by kernel_rfl) (by kernel_rfl) (fun _ _ _ h => h) (Or.inl ⟨by rfl, ?_⟩) (by assumption) ?_
          rotate_left 1
          · (intro w hSw; (try dsimp only at hSw); go_simp) <;> (with_reducible rfl)
          try simp only [Act.put, List.setIfInBounds_toArray, List.set_cons_zero, List.set_cons_succ]
          refine wpAnyH_ready (rs := [11]) (by kernel_rfl) (by simp) ?_
          refine AllReadyH.cons (o := ⟨none, _, _, _, _, _⟩) rfl (fun K hK => ?_) AllReadyH.nil
          go_simp
          clear hHeld
          refine hK.out _ _ trivial (fun hHeld => ?_)
          clear hK K
          try simp only [Act.put, List.setIfInBounds_toArray, List.set_cons_zero, List.set_cons_succ]
          refine wpAnyH_done (by kernel_rfl) ?_ _
          have HN2 : Hid ((qs ++ [q]).length = k + 1 ∧ (qs ++ [q]).map Tr.flat = (ks.take (k + 1)).map Tr.flat) := ⟨by rw [List.length_append, HQ.out]; rfl, by rw [HTK.out, List.map_append, List.map_append, HFL.out, List.map_singleton, List.map_singleton, HQO.out.2.1]⟩
          clear cX fX
          go_wp2_with fail
          go_roundw
          case rel => exact ⟨k + 1, qs ++ [q], B8, e8, by push_cast; rfl, by omega, HCL8.out, HN2.out⟩
          case measure => simp [intOf]; omega
        · go_simp
          go_at_call 44
          refine HTO.out.mono ?_
          rintro _ wc ⟨q, rfl, ho, hfl, hqn, hqo, hf⟩
          have HFC := Lib.hid hf
          have HQO := Lib.hid (And.intro ho (And.intro hfl (And.intro hqn hqo)))
          obtain ⟨qg, hqg⟩ : ∃ qg, qg = q.g := ⟨_, rfl⟩
          rw [← hqg]
          have HQG := Lib.hid hqg
          clear ho hfl hqn hqo hf hqg hHeld
          refine hK.out _ _ trivial (fun hHeld => ?_)
          clear hK K
          try simp only [Act.put, List.setIfInBounds_toArray, List.set_cons_zero, List.set_cons_succ]
          refine wpAnyH_ready (rs := [4, 7]) (by kernel_rfl) (by simp) ?_
          refine AllReadyH.cons (o := ⟨some 26, _, _, _, _, _⟩) rfl (fun K hK => ?_) (AllReadyH.cons (o := ⟨some 29, _, _, _, _, _⟩) rfl (fun K hK => ?_) AllReadyH.nil)
          · have cX := TC.out _ HFC.out
            go_simp
            clear hHeld
            refine hK.out _ _ trivial (fun hHeld => ?_)
            clear hK K cX
            try simp only [Act.put, List.setIfInBounds_toArray, List.set_cons_zero, List.set_cons_succ]
            refine wpAnyH_ready (rs := [7]) (by kernel_rfl) (by simp) ?_
            refine AllReadyH.cons (o := ⟨some 29, _, _, _, _, _⟩) rfl (fun K hK => ?_) AllReadyH.nil
            go_simp
            clear hHeld
            refine hK.out _ _ trivial (fun hHeld => ?_)
            clear hK K
            try simp only [Act.put, List.setIfInBounds_toArray, List.set_cons_zero, List.set_cons_succ]
            refine wpAnyH_ready (rs := [8]) (by kernel_rfl) (by simp) ?_
            refine AllReadyH.cons (o := ⟨some 30, _, _, _, _, _⟩) rfl (fun K hK => ?_) AllReadyH.nil
            have HRS : Hid (Rd (wc.alloc (.cells #[.pointer (some ⟨qg, 0, none⟩)] 63)) (some ⟨wc.heap.size, 0, none⟩) [ptr qg]) := Rd.of_cells (Bk.new wc 63 #[.pointer (some ⟨qg, 0, none⟩)])
            have HFD : Hid (Fr NoBlk wr.drew (wc.alloc (.cells #[.pointer (some ⟨qg, 0, none⟩)] 63))) := HFC.out.alloc _
            have HRP : Hid ((wc.alloc (.cells #[.pointer (some ⟨qg, 0, none⟩)] 63)).ownsRow w.heap.size 63 1 (.slice B k e) k ((qs.map Tr.g).map ptr)) := by
              have h := (HI1.out.nofr HFD.out).rp
              rw [HQ.out] at h
              exact h
            refine step_appW rfl _ _ 65 rfl w.heap.size 63 i1 _ 1 8 Try.underlying65 hi hz0 hz1 hz2 rfl (by decide) (.slice B k e) k ((qs.map Tr.g).map ptr) rfl HRP.out (some ⟨wc.heap.size, 0, none⟩) 1 1 [ptr qg] rfl rfl HRS.out (own_ptrs_one [qg]) (fun e => by cases e) (by unfold maxLen; omega) (by omega) (HI1.out.nofr HFD.out).fr.size ?_
            intro v8 w8 ho8 hg8 hb8
            obtain ⟨B8, e8, rfl, _, _⟩ := own_form ho8
            have HCL8 : Hid (Clo w w2 g A1 n c1 B8 e8 hxs (qs ++ [q]) (w8.setCell ⟨g, 1, none⟩ (.slice B8 (k + 1) e8))) := HI1.out.push HQO.out.1 (by rw [HQO.out.2.2.1]; exact HK8.out) HQO.out.2.2.2 HFC.out (by rw [HQ.out]) ((Fr.refl _ _).alloc _) (by rw [← HQG.out]; exact ho8) (by rw [HQ.out]; exact hg8) (by rw [HQ.out]; exact hb8)
            have cX : w8.cell? ⟨g, 1, none⟩ = some (.slice B k e) := by
              have h1 := (Fr.ofGrown hg8).cell (p := ⟨g, 1, none⟩) (HI1.out.nofr HFD.out).bk.lt (fun x => own_apart HRP.out (HI1.out.nofr HFD.out).bk (by decide) x.symm)
              exact h1.trans (TC.out _ HFD.out)
            have fX : w8.frozen? ⟨g, 1, none⟩ = false := by
              have h1 := (Fr.ofGrown hg8).frozen (p := ⟨g, 1, none⟩) (HI1.out.nofr HFD.out).bk.lt (fun x => own_apart HRP.out (HI1.out.nofr HFD.out).bk (by decide) x.symm)
              exact h1.trans ((HI1.out.nofr HFD.out).bk.free 1)
            clear ho8 hg8 hb8 hHeld
            refine hK.out _ _ trivial (fun hHeld => ?_)
            clear hK K
            try simp only [Act.put, List.setIfInBounds_toArray, List.set_cons_zero, List.set_cons_succ]
            refine wpAnyH_take (i := 9) (oi := ⟨some 31, _, _, _, _, _⟩) (v := ?_) rfl (by kernel_rfl) (by kernel_rfl) (by kernel_rfl) (fun _ _ _ h => h) (Or.inl ⟨by rfl, ?_⟩) (by assumption) ?_
            rotate_left 1
            · (intro w hSw; (try dsimp only at hSw); go_simp) <;> (with_reducible rfl)
            try simp only [Act.put, List.setIfInBounds_toArray, List.set_cons_zero, List.set_cons_succ]
            refine wpAnyH_take (i := 10) (oi := ⟨some 32, _, _, _, _, _⟩) (v := ?_) rfl (by kernel_rfl) (by kernel_rfl) (by kernel_rfl) (fun _ _ _ h => h) (Or.inl ⟨by rfl, ?_⟩) (by assumption) ?_
            rotate_left 1
            · (intro w hSw; (try dsimp only at hSw); go_simp) <;> (with_reducible rfl)
            try simp only [Act.put, List.setIfInBounds_toArray, List.set_cons_zero, List.set_cons_succ]
            refine wpAnyH_ready (rs := [11]) (by kernel_rfl) (by simp) ?_
            refine AllReadyH.cons (o := ⟨none, _, _, _, _, _⟩) rfl (fun K hK => ?_) AllReadyH.nil
            go_simp
            clear hHeld
            refine hK.out _ _ trivial (fun hHeld => ?_)
            clear hK K
            try simp only [Act.put, List.setIfInBounds_toArray, List.set_cons_zero, List.set_cons_succ]
            refine wpAnyH_done (by kernel_rfl) ?_ _
            have HN2 : Hid ((qs ++ [q]).length = k + 1 ∧ (qs ++ [q]).map Tr.flat = (ks.take (k + 1)).map Tr.flat) := ⟨by rw [List.length_append, HQ.out]; rfl, by rw [HTK.out, List.map_append, List.map_append, HFL.out, List.map_singleton, List.map_singleton, HQO.out.2.1]⟩
            clear cX fX
            go_wp2_with fail
            go_roundw
            case rel => exact ⟨k + 1, qs ++ [q], B8, e8, by push_cast; rfl, by omega, HCL8.out, HN2.out⟩
            case measure => simp [intOf]; omega
          · go_simp
            clear hHeld
            refine hK.out _ _ trivial (fun hHeld => ?_)
            clear hK K
            try simp only [Act.put, List.setIfInBounds_toArray, List.set_cons_zero, List.set_cons_succ]
            refine wpAnyH_ready (rs := [4]) (by kernel_rfl) (by simp) ?_
            refine AllReadyH.cons (o := ⟨some 26, _, _, _, _, _⟩) rfl (fun K hK => ?_) AllReadyH.nil
            have cX := TC.out _ (HFC.out.alloc (.cells #[.pointer (some ⟨qg, 0, none⟩)] 63))
            go_simp
            clear hHeld
            refine hK.out _ _ trivial (fun hHeld => ?_)
            clear hK K cX
            try simp only [Act.put, List.setIfInBounds_toArray, List.set_cons_zero, List.set_cons_succ]
            refine wpAnyH_ready (rs := [8]) (by kernel_rfl) (by simp) ?_
            refine AllReadyH.cons (o := ⟨some 30, _, _, _, _, _⟩) rfl (fun K hK => ?_) AllReadyH.nil
            have HRS : Hid (Rd (wc.alloc (.cells #[.pointer (some ⟨qg, 0, none⟩)] 63)) (some ⟨wc.heap.size, 0, none⟩) [ptr qg]) := Rd.of_cells (Bk.new wc 63 #[.pointer (some ⟨qg, 0, none⟩)])
            have HFD : Hid (Fr NoBlk wr.drew (wc.alloc (.cells #[.pointer (some ⟨qg, 0, none⟩)] 63))) := HFC.out.alloc _
            have HRP : Hid ((wc.alloc (.cells #[.pointer (some ⟨qg, 0, none⟩)] 63)).ownsRow w.heap.size 63 1 (.slice B k e) k ((qs.map Tr.g).map ptr)) := by
              have h := (HI1.out.nofr HFD.out).rp
              rw [HQ.out] at h
              exact h
            refine step_appW rfl _ _ 65 rfl w.heap.size 63 i1 _ 1 8 Try.underlying65 hi hz0 hz1 hz2 rfl (by decide) (.slice B k e) k ((qs.map Tr.g).map ptr) rfl HRP.out (some ⟨wc.heap.size, 0, none⟩) 1 1 [ptr qg] rfl rfl HRS.out (own_ptrs_one [qg]) (fun e => by cases e) (by unfold maxLen; omega) (by omega) (HI1.out.nofr HFD.out).fr.size ?_
            intro v8 w8 ho8 hg8 hb8
            obtain ⟨B8, e8, rfl, _, _⟩ := own_form ho8
            have HCL8 : Hid (Clo w w2 g A1 n c1 B8 e8 hxs (qs ++ [q]) (w8.setCell ⟨g, 1, none⟩ (.slice B8 (k + 1) e8))) := HI1.out.push HQO.out.1 (by rw [HQO.out.2.2.1]; exact HK8.out) HQO.out.2.2.2 HFC.out (by rw [HQ.out]) ((Fr.refl _ _).alloc _) (by rw [← HQG.out]; exact ho8) (by rw [HQ.out]; exact hg8) (by rw [HQ.out]; exact hb8)
            have cX : w8.cell? ⟨g, 1, none⟩ = some (.slice B k e) := by
              have h1 := (Fr.ofGrown hg8).cell (p := ⟨g, 1, none⟩) (HI1.out.nofr HFD.out).bk.lt (fun x => own_apart HRP.out (HI1.out.nofr HFD.out).bk (by decide) x.symm)
              exact h1.trans (TC.out _ HFD.out)
            have fX : w8.frozen? ⟨g, 1, none⟩ = false := by
              have h1 := (Fr.ofGrown hg8).frozen (p := ⟨g, 1, none⟩) (HI1.out.nofr HFD.out).bk.lt (fun x => own_apart HRP.out (HI1.out.nofr HFD.out).bk (by decide) x.symm)
              exact h1.trans ((HI1.out.nofr HFD.out).bk.free 1)
            clear ho8 hg8 hb8 hHeld
            refine hK.out _ _ trivial (fun hHeld => ?_)
            clear hK K
            try simp only [Act.put, List.setIfInBounds_toArray, List.set_cons_zero, List.set_cons_succ]
            refine wpAnyH_take (i := 9) (oi := ⟨some 31, _, _, _, _, _⟩) (v := ?_) rfl (by kernel_rfl) (by kernel_rfl) (by kernel_rfl) (fun _ _ _ h => h) (Or.inl ⟨by rfl, ?_⟩) (by assumption) ?_
            rotate_left 1
            · (intro w hSw; (try dsimp only at hSw); go_simp) <;> (with_reducible rfl)
            try simp only [Act.put, List.setIfInBounds_toArray, List.set_cons_zero, List.set_cons_succ]
            refine wpAnyH_take (i := 10) (oi := ⟨some 32, _, _, _, _, _⟩) (v := ?_) rfl (by kernel_rfl) (by kernel_rfl) (by kernel_rfl) (fun _ _ _ h => h) (Or.inl ⟨by rfl, ?_⟩) (by assumption) ?_
            rotate_left 1
            · (intro w hSw; (try dsimp only at hSw); go_simp) <;> (with_reducible rfl)
            try simp only [Act.put, List.setIfInBounds_toArray, List.set_cons_zero, List.set_cons_succ]
            refine wpAnyH_ready (rs := [11]) (by kernel_rfl) (by simp) ?_
            refine AllReadyH.cons (o := ⟨none, _, _, _, _, _⟩) rfl (fun K hK => ?_) AllReadyH.nil
            go_simp
            clear hHeld
            refine hK.out _ _ trivial (fun hHeld => ?_)
            clear hK K
            try simp only [Act.put, List.setIfInBounds_toArray, List.set_cons_zero, List.set_cons_succ]
            refine wpAnyH_done (by kernel_rfl) ?_ _
            have HN2 : Hid ((qs ++ [q]).length = k + 1 ∧ (qs ++ [q]).map Tr.flat = (ks.take (k + 1)).map Tr.flat) := ⟨by rw [List.length_append, HQ.out]; rfl, by rw [HTK.out, List.map_append, List.map_append, HFL.out, List.map_singleton, List.map_singleton, HQO.out.2.1]⟩
            clear cX fX
            go_wp2_with fail
            go_roundw
            case rel => exact ⟨k + 1, qs ++ [q], B8, e8, by push_cast; rfl, by omega, HCL8.out, HN2.out⟩
            case measure => simp [intOf]; omega
      · have hki : ¬ (k : Int) < (np : Int) := by omega
        have HE : Hid (k = np) := by show k = np; omega
        go_wp2_with fail
        go_ret
        refine HI.out.1.done (hd := ⟨hg, hA, hc, some ⟨pb, 0, none⟩, he, hxs⟩) rfl HN.out ?_ HKS.out
        rw [HI.out.2.2, HE.out, HNP.out, List.take_length]
end Go.Proofs.Ytcpgonioobgpoaa
