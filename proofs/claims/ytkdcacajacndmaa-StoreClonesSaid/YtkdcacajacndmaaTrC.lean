/- Two stores beside the document's: a call on one of them and the document's leaves the other. Bytes of stores tell their rows. Conditions: as do's. A node's clone: a tree of its own with the same keys and values. Conditions: as the tree's shape has them. Clone of a tree. No condition. Clone; what a script makes of rows; a store, the document's, and another one, beside what was made since. Conditions: as do's. -/
import Derived.Test.YtkdcacajacndmaaSmX
import Derived.Test.YtkdcacajacndmaaSnY
import Derived.Test.YtkdcacajacndmaaAppW
import Derived.Test.YtkdcacajacndmaaP4
import Derived.Test.YtkdcacajacndmaaB7
import Derived.Deep.RegionHeld3
import Derived.Test.YtkdcacajacndmaaN4R
import Derived.Test.YtkdcacajacndmaaRdX
namespace Go.Proofs.Ytkdcacajacndmaa
open Go.RowKit
theorem wpAnyH_more {P : Program} {md : Region.Mode} {ops : Array Oper} {Q : Exit → Act → World → Prop} {S S' : World → Prop} (hS : ∀ w, S' w → S w) :
    ∀ (fuel : Nat) (listed : Array Bool) (a : Act) (w : World), wpAnyH P md ops Q S' fuel listed a w → wpAnyH P md ops Q S fuel listed a w
  | 0, _, _, _, h => h
  | fuel + 1, _, _, _, h => ⟨h.1, fun i hi => wpOp_mono (fun a' w' h' => ⟨hS w' h'.1, wpAnyH_more hS fuel _ a' w' h'.2⟩) (h.2 i hi)⟩
theorem Store.none_ {o : Option Nat} {w : World} {g n : Nat} {O : Nat → Prop} {rs : List Rw} (h : @Store ⟨o⟩ w g O n rs) : @Store ⟨none⟩ w g O n rs :=
  @Store.other ⟨o⟩ none w w g n O rs h (Fr.refl _ _) (fun k e => by cases e) (fun k e => by cases e)
theorem RSt.none_ {o : Option Nat} {w : World} {B g n : Nat} {O : Nat → Prop} {rs : List Rw} (h : @RSt ⟨o⟩ w B g O n rs) : @RSt ⟨none⟩ w B g O n rs :=
  @RSt.other ⟨o⟩ none w w B g n O rs h (Fr.refl _ _) (fun k e => by cases e) (fun k e => by cases e)
/-- a store and the document's, and another store. -/
def Trio (W w : World) (ga gm gb n : Nat) (ra rm rb : List Rw) : Prop :=
  ∃ O OM o OB, @PairS ⟨o⟩ W w ga gm n ra rm O OM ∧ @Store ⟨none⟩ w gb OB n rb ∧ (∀ b, OB b → ¬ O b ∧ ¬ OM b) ∧ ∀ b, OB b → W.heap.size ≤ b
theorem Trio.nofr {W w w' : World} {ga gm gb n : Nat} {ra rm rb : List Rw} (h : Trio W w ga gm gb n ra rm rb) (hf : Fr NoBlk w w') : Trio W w' ga gm gb n ra rm rb := by
  obtain ⟨O, OM, o, OB, h1, h2, h3, h4⟩ := h
  exact ⟨O, OM, o, OB, @PairS.nofr ⟨o⟩ _ _ _ _ _ _ _ _ _ _ h1 hf, @Store.nofr ⟨none⟩ _ _ _ _ _ _ h2 hf, h3, h4⟩
theorem Trio.fr {W w : World} {ga gm gb n : Nat} {ra rm rb : List Rw} (h : Trio W w ga gm gb n ra rm rb) : Fr NoBlk W w := by
  obtain ⟨O, OM, o, OB, h1, _⟩ := h
  exact @PairS.fr ⟨o⟩ _ _ _ _ _ _ _ _ _ h1
theorem Trio.swap {W w : World} {ga gm gb n : Nat} {ra rm rb : List Rw} (h : Trio W w ga gm gb n ra rm rb) : Trio W w gb gm ga n rb rm ra := by
  obtain ⟨O, OM, o, OB, h1, h2, h3, h4⟩ := h
  refine ⟨OB, OM, none, O, @PairS.mk ⟨none⟩ _ _ _ _ _ _ _ _ _ h2 (@PairS.rst ⟨o⟩ _ _ _ _ _ _ _ _ _ h1).none_ h4 (fun b hb => (h3 b hb).2) (@PairS.fr ⟨o⟩ _ _ _ _ _ _ _ _ _ h1), (@PairS.st ⟨o⟩ _ _ _ _ _ _ _ _ _ h1).none_, fun b hb => ⟨fun e => (h3 b e).1 hb, @PairS.apart ⟨o⟩ _ _ _ _ _ _ _ _ _ h1 b hb⟩, @PairS.new ⟨o⟩ _ _ _ _ _ _ _ _ _ h1⟩
theorem Trio.both {W w : World} {ga gm gb n : Nat} {ra rm rb : List Rw} (h : Trio W w ga gm gb n ra rm rb) : (∃ O, @Store ⟨none⟩ w ga O n ra) ∧ ∃ O, @Store ⟨none⟩ w gb O n rb := by
  obtain ⟨O, OM, o, OB, h1, h2, h3, h4⟩ := h
  exact ⟨⟨O, (@PairS.st ⟨o⟩ _ _ _ _ _ _ _ _ _ h1).none_⟩, OB, h2⟩
theorem Lim.le {j k : Nat} {rs : List Rw} (h : Lim j rs) (hk : j ≤ k) : Lim k rs := ⟨Nat.le_trans h.1 hk, fun z hz => ⟨(h.2 z hz).1, Nat.le_trans (h.2 z hz).2.1 hk, (h.2 z hz).2.2⟩⟩
/-- homes are among the regions. -/
def Homes (n : Nat) (rs : List Rw) : Prop := ∀ x ∈ rs, 0 ≤ x.2.home ∧ x.2.home < n
theorem homeOf_in (key : Bs) (n : Nat) (hn : 1 ≤ n) : 0 ≤ homeOf key (n : Int) ∧ homeOf key (n : Int) < n := by
  unfold homeOf
  rw [if_neg (by omega)]
  exact ⟨Int.emod_nonneg _ (by omega), Int.emod_lt_of_pos _ (by omega)⟩
theorem Homes.get {n : Nat} {rs : List Rw} (h : Homes n rs) (hn : 1 ≤ n) (key : Bs) : 0 ≤ (rget (n : Int) rs key).home ∧ (rget (n : Int) rs key).home < n := by
  unfold rget
  cases hf : rs.find? fun x => x.1 == key with
  | none => exact homeOf_in key n hn
  | some x => exact h x (List.mem_of_find?_eq_some hf)
theorem Homes.set {n : Nat} {rs : List Rw} (h : Homes n rs) (key : Bs) (r : Rec) (hr : 0 ≤ r.home ∧ r.home < n) : Homes n (rset rs key r) := fun z hz => by
  unfold rset at hz
  split at hz
  · rcases mem_putL' hz with rfl | hz
    · exact hr
    · exact h z hz
  · exact h z (mem_delL' hz)
theorem Homes.step {n : Nat} {rs : List Rw} (h : Homes n rs) (hn : 1 ≤ n) (x : Opn) : Homes n (dstep n rs x) := by
  unfold dstep
  split
  · exact h.set _ _ (h.get hn _)
  · split
    · unfold moveR
      split
      · rename_i he
        refine h.set _ _ ?_
        unfold moveE at he
        split at he
        · cases he
        · show 0 ≤ x.n ∧ x.n < n
          omega
      · exact h
    · split
      · exact h
      · exact h.set _ _ (h.get hn _)
end Go.Proofs.Ytkdcacajacndmaa

namespace Go.Proofs.Ytkdcacajacndmaa
open Go.RowKit
theorem ptrInfoR : (Try.prog.info? 98).map (fun i => (i.zero, i.size, i.bytes)) = some (some (.pointer none), 1, 8) := by kernel_rfl
theorem RowW.nils {w : World} {base : Nat} {e : TypeId} {size n c : Nat} {A : Option Addr} {xs : List Value} (h : RowW w base e size (.slice A n c) n xs) : A = none → c = 0 ∧ n = 0 := fun e => by
  obtain ⟨A', c', e1, h1, h2⟩ := h.form
  injection e1 with e1 e2 e3
  subst e1 e3
  have := h2 e
  exact ⟨this, by omega⟩
def CloneP (w : World) {d : Nat} (t : Tr ItR d) (e : Ending) (w' : World) : Prop :=
  ∃ t' : Tr ItR d, e = .returned (.pointer (some ⟨t'.g, 0, none⟩)) ∧ t'.ok tkR w' ∧ t'.flat = t.flat ∧ t'.n = t.n ∧ (∀ b, t'.own b → w.heap.size ≤ b) ∧ Fr NoBlk w w'
theorem own_ptrs_one (ps : List Nat) : ∀ u ∈ ps.map ptr, u.oneCell' = true := by
  intro u hu
  obtain ⟨p, _, rfl⟩ := List.mem_map.1 hu
  rfl
/-- a clone being made: its node g with items' row A and children's row B; the children ks so far. -/
structure Clo (w w1 : World) (g : Nat) (A : Option Addr) (n c : Nat) (B : Option Addr) (e : Nat) (xs : List ItR) {d : Nat} (ks : List (Tr ItR d)) (wr : World) : Prop where
  bk : Bk wr g 102 #[.slice A n c, .slice B ks.length e]
  ri : RowW wr w.heap.size 124 5 (.slice A n c) n (itsR xs)
  rp : wr.ownsRow w.heap.size 98 1 (.slice B ks.length e) ks.length ((ks.map Tr.g).map ptr)
  gl : w.heap.size ≤ g ∧ g < w1.heap.size
  al : ∀ b, ablk A b → b < w1.heap.size
  kid : ∀ q ∈ ks, q.ok tkR wr ∧ (8 ≤ q.n ∧ q.n ≤ 16) ∧ (∀ b, q.own b → w1.heap.size ≤ b) ∧ ∀ b, q.own b → ¬ ablk B b
  pw : ks.Pairwise fun k k' => Dj k.own k'.own
  fr : Fr NoBlk w wr
  f1 : w1.heap.size ≤ wr.heap.size
section
variable {w w1 wr w' : World} {g n c e : Nat} {A B : Option Addr} {xs : List ItR} {d : Nat} {ks : List (Tr ItR d)}
theorem Clo.nofr (h : Clo w w1 g A n c B e xs ks wr) (hf : Fr NoBlk wr w') : Clo w w1 g A n c B e xs ks w' :=
  ⟨h.bk.fr hf fun e => e, h.ri.fr hf fun _ _ e => e, own_fr h.rp hf fun _ _ e => e, h.gl, h.al, fun q hq => ⟨(h.kid q hq).1.fr hf fun _ _ e => e, (h.kid q hq).2⟩, h.pw, h.fr.trans hf, Nat.le_trans h.f1 hf.size⟩
/-- a child more. -/
theorem Clo.push (h : Clo w w1 g A n c B e xs ks wr) {wa wb : World} {q : Tr ItR d} (ho : q.ok tkR wa) (h8 : 8 ≤ q.n ∧ q.n ≤ 16) (hn : ∀ b, q.own b → wr.heap.size ≤ b) (hf : Fr NoBlk wr wa)
    {B' : Option Addr} {m e' : Nat} (hm : m = ks.length + 1) {wd : World} (hd : Fr NoBlk wa wd) (hr : wb.ownsRow w.heap.size 98 1 (.slice B' m e') m ((ks.map Tr.g).map ptr ++ [ptr q.g]))
    (hg : wd.grownBy wb (Value.slice B ks.length e).ownBlock) (hb : (Value.slice B' m e').ownBlock = (Value.slice B ks.length e).ownBlock ∨ (Value.slice B' m e').ownBlock = some wd.heap.size) :
    Clo w w1 g A n c B' e' xs (ks ++ [q]) (wb.setCell ⟨g, 1, none⟩ (.slice B' m e')) := by
  have had := hf.trans hd
  have h2 := h.nofr had
  have hBd : ∀ b, (Value.slice B ks.length e).ownBlock = some b → w.heap.size ≤ b ∧ b < wr.heap.size := fun b hb => h.rp.lt b hb
  have hgd : Fr (fun b => some b = (Value.slice B ks.length e).ownBlock) wd wb := Fr.ofGrown hg
  have hgB : (Value.slice B ks.length e).ownBlock ≠ some g := own_apart h.rp h.bk (by decide)
  have hs : Fr (fun b => b = g) wb (wb.setCell ⟨g, 1, none⟩ (.slice B' m e')) := (Fr.refl (fun b => b = g) wb).setCell (p := ⟨g, 1, none⟩) (fun _ => rfl) _
  have hall : Fr (fun b => some b = (Value.slice B ks.length e).ownBlock ∨ b = g) wd (wb.setCell ⟨g, 1, none⟩ (.slice B' m e')) := (hgd.mono fun _ _ x => .inl x).step hs fun _ _ x => .inr x
  have hsz1 := had.size
  have hsz2 := hgd.size
  have hB' : ∀ b, ablk B' b → ablk B b ∨ wd.heap.size ≤ b := fun b hb' => by
    have h1 := ablk_own (n := m) (c := e') hb'
    rcases hb with hb | hb
    · rw [hb] at h1
      exact .inl (own_ablk h1)
    · rw [hb] at h1
      injection h1 with h1
      exact .inr (by omega)
  have hnB : ∀ b, q.own b → ¬ ablk B b := fun b hq hb2 => by
    have := (hBd b (ablk_own hb2)).2
    have := hn b hq
    omega
  have hkid : ∀ p ∈ ks, ∀ b, p.own b → ¬ (some b = (Value.slice B ks.length e).ownBlock ∨ b = g) := fun p hp b hb2 x => by
    rcases x with x | x
    · exact (h.kid p hp).2.2.2 b hb2 (own_ablk x.symm)
    · have := (h.kid p hp).2.2.1 b hb2; have := h.gl.2; omega
  have hqn : ∀ b, q.own b → ¬ (some b = (Value.slice B ks.length e).ownBlock ∨ b = g) := fun b hb2 x => by
    rcases x with x | x
    · exact hnB b hb2 (own_ablk x.symm)
    · have := hn b hb2; have := h.gl.2; have := h.f1; omega
  refine ⟨?_, h2.ri.fr hall ?_, ?_, h.gl, h.al, ?_, ?_, ?_, ?_⟩
  · have hbk : Bk wb g 102 #[.slice A n c, .slice B ks.length e] := h2.bk.fr hgd fun x => hgB x.symm
    have := hbk.put 1 (.slice B' m e')
    rw [List.length_append]
    subst hm
    exact this
  · intro b hb2 x
    rcases x with x | x
    · obtain ⟨cur, h3⟩ := h.ri.blk' hb2
      exact own_apart h.rp h3 (by decide) x.symm
    · subst x
      obtain ⟨cur, h3⟩ := h.ri.blk' hb2
      exact h.bk.apart h3 (by decide) rfl
  · have hr2 := own_fr hr hs fun b hb2 x => own_apart hr (h2.bk.fr hgd fun x => hgB x.symm) (by decide) (x ▸ hb2)
    rw [List.length_append, List.map_append, List.map_append]
    subst hm
    exact hr2
  · intro p hp
    rcases List.mem_append.1 hp with hp | hp
    · refine ⟨(h2.kid p hp).1.fr hall (hkid p hp), (h.kid p hp).2.1, (h.kid p hp).2.2.1, fun b hb2 x => ?_⟩
      rcases hB' b x with x | x
      · exact (h.kid p hp).2.2.2 b hb2 x
      · have := (h.kid p hp).1.lt hb2; omega
    · obtain rfl := List.mem_singleton.1 hp
      refine ⟨(ho.fr hd fun _ _ x => x).fr hall hqn, h8, fun b hb2 => Nat.le_trans h.f1 (hn b hb2), fun b hb2 x => ?_⟩
      rcases hB' b x with x | x
      · exact hnB b hb2 x
      · have := ho.lt hb2; have := hd.size; omega
  · rw [List.pairwise_append]
    refine ⟨h.pw, List.pairwise_singleton _ _, fun p hp p' hp' => ?_⟩
    obtain rfl := List.mem_singleton.1 hp'
    exact fun b x y => by have := (h.kid p hp).1.lt x; have := hn b y; omega
  · refine (h.fr.trans had).step hall fun b hb2 x => ?_
    rcases x with x | x
    · have := (hBd b x.symm).1; omega
    · have := h.gl.1; omega
  · have := hs.size; have := h.f1; omega
/-- the clone is whole. -/
theorem Clo.done {w1 : World} (h : Clo w w1 g A n c B e xs ks wr) {hd : Hd ItR} {ks0 : List (Tr ItR d)} (hx : hd.xs = xs) (hn : n = xs.length) (hk : ks.map Tr.flat = ks0.map Tr.flat) (hl : ks0.length = hd.xs.length + 1) :
    CloneP w (Tr.node hd ks0) (.returned (.pointer (some ⟨g, 0, none⟩))) wr := by
  subst hx hn
  have hll : ks.length = ks0.length := by have := congrArg List.length hk; simpa using this
  refine ⟨Tr.node ⟨g, A, c, B, e, hd.xs⟩ ks, rfl, Tr.mk_ok ?_ (fun q hq => ⟨(h.kid q hq).1, (h.kid q hq).2.1, fun b x y => ?_⟩) h.pw (by show ks.length = hd.xs.length + 1; omega), ?_, rfl, fun b hb => ?_, h.fr⟩
  · refine Hd.lies_mk (κ := tkR) h.bk (h.ri.low (Nat.zero_le _)) ((RowW.ofOwn h.rp (own_ptrs_one _)).low (Nat.zero_le _)) rfl (by rw [List.length_map]) rfl rfl
  · rcases x with x | x | x
    · have := (h.kid q hq).2.2.1 b y; have := h.gl.2; have : b = g := x; omega
    · have := (h.kid q hq).2.2.1 b y; have := h.al b x; omega
    · exact (h.kid q hq).2.2.2 b y x
  · show weave (ks.map Tr.flat) hd.xs = weave (ks0.map Tr.flat) hd.xs
    rw [hk]
  · rcases hb with (x | x | x) | ⟨q, hq, x⟩
    · have : b = g := x; have := h.gl.1; omega
    · exact (h.ri.lt (ablk_own x)).1
    · exact (h.rp.lt b (ablk_own x)).1
    · have := (h.kid q hq).2.2.1 b x; have := h.gl; omega
end
theorem take_snoc {α : Type} {L : List α} {k : Nat} {x : α} (h : L[k]? = some x) : L.take (k + 1) = L.take k ++ [x] := by rw [List.take_add_one, h]; rfl
set_option maxRecDepth 100000 in
set_option maxHeartbeats 1000000 in
theorem nodeCloneR_any : ∀ {d : Nat} (w : World) (t : Tr ItR d), t.ok tkR w → t.n ≤ 16 → Calls Try.prog 62 #[.pointer (some ⟨t.g, 0, none⟩)] w (CloneP w t) := by
  intro d
  induction d with
  | zero =>
    intro w t o h16
    obtain ⟨hg, hA, hc, hB, he, hxs⟩ := t
    obtain ⟨b1, b2, b3⟩ : (Hd.mk hg hA hc hB he hxs).lies tkR w [] := o.lies
    unfold tkR at b1 b2 b3
    dsimp only at b1 b2 b3
    obtain ⟨n, hn⟩ : ∃ n, n = hxs.length := ⟨_, rfl⟩
    have h16' : n ≤ 16 := by rw [hn]; exact h16
    rw [← hn] at b1 b2
    have HCL := Lib.hid (cloneR_any w hA hc n (itsR hxs) (by rw [itsR_len, hn]) (itsR_one _) b2.rd b2.nils (by omega))
    have c0 : w.cell? ⟨hg, 0, none⟩ = some (.slice hA n hc) := b1.cell 0
    have HB1 := Lib.hid b1
    have HN := Lib.hid hn
    clear b1 b2 b3 o h16 hn
    show Calls _ _ #[.pointer (some ⟨hg, 0, none⟩)] _ _
    go_enter Try.func62, Try.ntmps62
    go_wp2_with fail
    refine HCL.out.mono ?_
    clear HCL
    rintro e w1 ⟨A1, c1, rfl, hr1, hf1⟩
    have HR1 := Lib.hid hr1
    have HF1 := Lib.hid hf1
    obtain ⟨w2, hw2⟩ : ∃ w2, w2 = w1.alloc (.cells #[.slice A1 n c1, .slice none 0 0] 102) := ⟨_, rfl⟩
    have HF2 : Hid (Fr NoBlk w1 w2) := by show Fr _ _ _; rw [hw2]; exact (Fr.refl _ _).alloc _
    have HB2 : Hid (Bk w2 w1.heap.size 102 #[.slice A1 n c1, .slice none 0 0]) := by show Bk _ _ _ _; rw [hw2]; exact Bk.new _ _ _
    have cc : (w1.alloc (.cells #[.slice A1 n c1, .slice none 0 0] 102)).cell? ⟨hg, 1, none⟩ = some (.slice hB 0 he) := by rw [← hw2]; exact (HB1.out.fr (hf1.trans HF2.out) fun e => e).cell 1
    have HW2 := Lib.hid hw2
    clear hr1 hf1 c0 hw2
    go_wp2_with fail
    rw [← HW2.out]
    clear HW2 cc
    go_loopw [18] (fun i wr => i = .int .i64 0 ∧ w2 = wr) (fun _ _ => 0)
    case atStart => exact ⟨rfl, rfl⟩
    case round =>
      obtain ⟨rfl, rfl⟩ := hrel
      go_wp2_with fail
      go_ret
      refine ⟨(⟨w1.heap.size, A1, c1, none, 0, hxs⟩ : Hd ItR), rfl, ⟨Hd.lies_mk (κ := tkR) (ps := []) HB2.out ((HR1.out.fr HF2.out fun _ _ e => e).low (Nat.zero_le _)) (RowW.nil _ _ _ _) HN.out rfl rfl rfl, trivial, trivial⟩, rfl, rfl, fun b hb => ?_, HF1.out.trans HF2.out⟩
      rcases hb with rfl | hb | hb
      · exact HF1.out.size
      · exact (HR1.out.lt (ablk_own hb)).1
      · obtain ⟨_, e, _⟩ := hb; cases e
  | succ d ih =>
    intro w t o h16
    obtain ⟨⟨hg, hA, hc, hB, he, hxs⟩, ks⟩ := t
    obtain ⟨b1, b2, b3⟩ : (Hd.mk hg hA hc hB he hxs).lies tkR w (ks.map Tr.g) := o.lies.1
    unfold tkR at b1 b2 b3
    dsimp only at b1 b2 b3
    obtain ⟨i1, hi, hz0, hz1, hz2⟩ := info_partsR ptrInfoR
    obtain ⟨n, hn⟩ : ∃ n, n = hxs.length := ⟨_, rfl⟩
    obtain ⟨np, hnp⟩ : ∃ np, np = ks.length := ⟨_, rfl⟩
    have h16' : n ≤ 16 := by rw [hn]; exact h16
    have hks : ks.length = hxs.length + 1 := o.shape.1
    have hnp2 : np = n + 1 := by omega
    rw [List.length_map, ← hnp] at b1 b3
    rw [← hn] at b1 b2
    have HCL := Lib.hid (cloneR_any w hA hc n (itsR hxs) (by rw [itsR_len, hn]) (itsR_one _) b2.rd b2.nils (by omega))
    have c0 : w.cell? ⟨hg, 0, none⟩ = some (.slice hA n hc) := b1.cell 0
    have HB1 := Lib.hid b1
    obtain ⟨pb, rfl⟩ := b3.addr (by omega)
    have HP3 := Lib.hid b3
    have HN := Lib.hid hn
    have HNP := Lib.hid hnp
    have HKS := Lib.hid hks
    have HO := Lib.hid o
    have IH := Lib.hid @ih
    clear b1 b2 b3 o h16 hn hnp hks ih
    show Calls _ _ #[.pointer (some ⟨hg, 0, none⟩)] _ _
    go_enter Try.func62, Try.ntmps62
    go_wp2_with fail
    refine HCL.out.mono ?_
    clear HCL
    rintro e w1 ⟨A1, c1, rfl, hr1, hf1⟩
    obtain ⟨g, hgg⟩ : ∃ g, g = w1.heap.size := ⟨_, rfl⟩
    obtain ⟨w2, hw2⟩ : ∃ w2, w2 = w1.alloc (.cells #[.slice A1 n c1, .slice none 0 0] 102) := ⟨_, rfl⟩
    have hf2 : Fr NoBlk w1 w2 := by rw [hw2]; exact (Fr.refl _ _).alloc _
    have hb2 : Bk w2 g 102 #[.slice A1 n c1, .slice none 0 0] := by rw [hw2, hgg]; exact Bk.new _ _ _
    have HI0 : Hid (Clo w w2 g A1 n c1 none 0 hxs ([] : List (Tr ItR d)) w2) := ⟨hb2, hr1.fr hf2 fun _ _ e => e, ⟨rfl, .inl ⟨rfl, rfl⟩⟩, ⟨by rw [hgg]; exact hf1.size, hb2.lt⟩, fun b hb => Nat.lt_of_lt_of_le (hr1.lt (ablk_own hb)).2 hf2.size, (fun _ h => by cases h), List.Pairwise.nil, hf1.trans hf2, Nat.le_refl _⟩
    have cc : (w1.alloc (.cells #[.slice A1 n c1, .slice none 0 0] 102)).cell? ⟨hg, 1, none⟩ = some (.slice (some ⟨pb, 0, none⟩) np he) := by rw [← hw2]; exact (HB1.out.fr (hf1.trans hf2) fun e => e).cell 1
    have HW2 := Lib.hid hw2
    have HGG := Lib.hid hgg
    clear hr1 hf1 c0 hw2 hf2 hb2 hgg
    go_wp2_with fail
    rw [← HW2.out, ← HGG.out]
    clear HW2 HGG cc
    go_loopw [18] (fun i wr => ∃ (k : Nat) (qs : List (Tr ItR d)) (B : Option Addr) (e : Nat), i = .int .i64 (k : Int) ∧ k ≤ np ∧ Hid (Clo w w2 g A1 n c1 B e hxs qs wr ∧ qs.length = k ∧ qs.map Tr.flat = (ks.take k).map Tr.flat)) (fun i _ => (np - intOf i).toNat)
    case atStart => exact ⟨0, [], none, 0, rfl, Nat.zero_le _, HI0.out, rfl, rfl⟩
    case round =>
      clear HI0
      obtain ⟨k, qs, B, e, rfl, hk, HI⟩ := hrel
      have hwr : IntKind.i64.wrap ((k : Int) + 1) = (k : Int) + 1 := IntWalk.i64_in _ (by omega)
      by_cases hkn : k < np
      · have hki : (k : Int) < (np : Int) := by omega
        obtain ⟨t, ht⟩ : ∃ t, ks[k]? = some t := ⟨_, List.getElem?_eq_getElem (by rw [← HNP.out]; exact hkn)⟩
        have htm := List.mem_of_getElem? ht
        have d0 : wr.cell? ⟨pb, k, none⟩ = some (.pointer (some ⟨t.g, 0, none⟩)) := (HP3.out.fr HI.out.1.fr fun _ _ e => e).cellP (by rw [List.getElem?_map, ht]; rfl)
        have HQ : Hid (qs.length = k) := HI.out.2.1
        have HK8 : Hid (8 ≤ t.n ∧ t.n ≤ 16) := (HO.out.kid htm).2
        have HTO : Hid (Calls Try.prog 62 #[.pointer (some ⟨t.g, 0, none⟩)] wr.drew (CloneP wr.drew t)) := IH.out wr.drew t ((HO.out.kid htm).1.fr (HI.out.1.fr.drew) fun _ _ e => e) HK8.out.2
        have HTK := Lib.hid (take_snoc ht)
        obtain ⟨tg, htg⟩ : ∃ tg, tg = t.g := ⟨_, rfl⟩
        rw [← htg] at d0 HTO
        have HI1 := Lib.hid (HI.out.1.nofr (Fr.refl NoBlk wr).drew)
        have HFL := Lib.hid HI.out.2.2
        have TC : Hid (∀ W, Fr NoBlk wr.drew W → W.cell? ⟨g, 1, none⟩ = some (.slice B k e)) := fun W hW => by
          have h := (HI1.out.nofr hW).bk.cell 1
          rw [HQ.out] at h
          exact h
        clear ht htm htg HI
        go_wp2_with fail
        refine wp_region_held_drew (S := fun _ => True) (by kernel_rfl) trivial (fun hHeld => ?_)
        refine wpAnyH_take (i := 0) (oi := ⟨some 22, _, _, _, _, _⟩) (v := ?_) rfl (by kernel_rfl) (by kernel_rfl) (by kernel_rfl) (fun _ _ _ h => h) (Or.inl ⟨by rfl, ?_⟩) (by assumption) ?_
        rotate_left 1
        · (intro w hSw; (try dsimp only at hSw); go_simp) <;> (with_reducible rfl)
        try simp only [Act.put, List.setIfInBounds_toArray, List.set_cons_zero, List.set_cons_succ]
        refine wpAnyH_take (i := 1) (oi := ⟨some 23, _, _, _, _, _⟩) (v := ?_) rfl (by kernel_rfl) (by kernel_rfl) (by kernel_rfl) (fun _ _ _ h => h) (Or.inl ⟨by rfl, ?_⟩) (by assumption) ?_
        rotate_left 1
        · (intro w hSw; (try dsimp only at hSw); go_simp) <;> (with_reducible rfl)
        try simp only [Act.put, List.setIfInBounds_toArray, List.set_cons_zero, List.set_cons_succ]
        refine wpAnyH_take (i := 2) (oi := ⟨some 24, _, _, _, _, _⟩) (v := ?_) rfl (by kernel_rfl) (by kernel_rfl) (by kernel_rfl) (fun _ _ _ h => h) (Or.inl ⟨by rfl, ?_⟩) (by assumption) ?_
        rotate_left 1
        · (intro w hSw; (try dsimp only at hSw); go_simp) <;> (with_reducible rfl)
        try simp only [Act.put, List.setIfInBounds_toArray, List.set_cons_zero, List.set_cons_succ]
        refine wpAnyH_take (i := 3) (oi := ⟨some 25, _, _, _, _, _⟩) (v := ?_) rfl (by kernel_rfl) (by kernel_rfl) (by kernel_rfl) (fun _ _ _ h => h) (Or.inl ⟨by rfl, ?_⟩) (by assumption) ?_
        rotate_left 1
        · (intro w hSw; (try dsimp only at hSw); go_simp) <;> (with_reducible rfl)
        try simp only [Act.put, List.setIfInBounds_toArray, List.set_cons_zero, List.set_cons_succ]
        refine wpAnyH_take (i := 5) (oi := ⟨some 27, _, _, _, _, _⟩) (v := ?_) rfl (by kernel_rfl) (by kernel_rfl) (by kernel_rfl) (fun _ _ _ h => h) (Or.inl ⟨by rfl, ?_⟩) (by assumption) ?_
        rotate_left 1
        · (intro w hSw; (try dsimp only at hSw); go_simp) <;> (with_reducible rfl)
        try simp only [Act.put, List.setIfInBounds_toArray, List.set_cons_zero, List.set_cons_succ]
        refine wpAnyH_ready (rs := [4, 6]) (by kernel_rfl) (by simp) ?_
        refine AllReadyH.cons (o := ⟨some 26, _, _, _, _, _⟩) rfl (fun K hK => ?_) (AllReadyH.cons (o := ⟨some 28, _, _, _, _, _⟩) rfl (fun K hK => ?_) AllReadyH.nil)
        · have cX := TC.out _ (Fr.refl _ wr.drew)
          have cY : wr.cell? ⟨g, 1, none⟩ = some (.slice B k e) := cX
          go_simp
          clear hHeld
          refine hK.out _ _ trivial (fun hHeld => ?_)
          clear hK K cX cY
          try simp only [Act.put, List.setIfInBounds_toArray, List.set_cons_zero, List.set_cons_succ]
          refine wpAnyH_ready (rs := [6]) (by kernel_rfl) (by simp) ?_
          refine AllReadyH.cons (o := ⟨some 28, _, _, _, _, _⟩) rfl (fun K hK => ?_) AllReadyH.nil
          go_simp
          go_at_call 62
          refine HTO.out.mono ?_
          rintro _ wc ⟨q, rfl, ho, hfl, hqn, hqo, hf⟩
          have HFC := Lib.hid hf
          have HQO := Lib.hid (And.intro ho (And.intro hfl (And.intro hqn hqo)))
          obtain ⟨qg, hqg⟩ : ∃ qg, qg = q.g := ⟨_, rfl⟩
          rw [← hqg]
          have HQG := Lib.hid hqg
          clear ho hfl hqn hqo hf hqg hHeld
          refine hK.out _ _ trivial (fun hHeld => ?_)
          clear hK K
          try simp only [Act.put, List.setIfInBounds_toArray, List.set_cons_zero, List.set_cons_succ]
          refine wpAnyH_ready (rs := [7]) (by kernel_rfl) (by simp) ?_
          refine AllReadyH.cons (o := ⟨some 29, _, _, _, _, _⟩) rfl (fun K hK => ?_) AllReadyH.nil
          go_simp
          clear hHeld
          refine hK.out _ _ trivial (fun hHeld => ?_)
          clear hK K
          try simp only [Act.put, List.setIfInBounds_toArray, List.set_cons_zero, List.set_cons_succ]
          refine wpAnyH_ready (rs := [8]) (by kernel_rfl) (by simp) ?_
          refine AllReadyH.cons (o := ⟨some 30, _, _, _, _, _⟩) rfl (fun K hK => ?_) AllReadyH.nil
          have HRS : Hid (Rd (wc.alloc (.cells #[.pointer (some ⟨qg, 0, none⟩)] 98)) (some ⟨wc.heap.size, 0, none⟩) [ptr qg]) := Rd.of_cells (Bk.new wc 98 #[.pointer (some ⟨qg, 0, none⟩)])
          have HFD : Hid (Fr NoBlk wr.drew (wc.alloc (.cells #[.pointer (some ⟨qg, 0, none⟩)] 98))) := HFC.out.alloc _
          have HRP : Hid ((wc.alloc (.cells #[.pointer (some ⟨qg, 0, none⟩)] 98)).ownsRow w.heap.size 98 1 (.slice B k e) k ((qs.map Tr.g).map ptr)) := by
            have h := (HI1.out.nofr HFD.out).rp
            rw [HQ.out] at h
            exact h
          refine step_appW rfl _ _ 100 rfl w.heap.size 98 i1 _ 1 8 Try.underlying100 hi hz0 hz1 hz2 rfl (by decide) (.slice B k e) k ((qs.map Tr.g).map ptr) rfl HRP.out (some ⟨wc.heap.size, 0, none⟩) 1 1 [ptr qg] rfl rfl HRS.out (own_ptrs_one [qg]) (fun e => by cases e) (by unfold maxLen; omega) (by omega) (HI1.out.nofr HFD.out).fr.size ?_
          intro v8 w8 ho8 hg8 hb8
          obtain ⟨B8, e8, rfl, _, _⟩ := own_form ho8
          have HCL8 : Hid (Clo w w2 g A1 n c1 B8 e8 hxs (qs ++ [q]) (w8.setCell ⟨g, 1, none⟩ (.slice B8 (k + 1) e8))) := HI1.out.push HQO.out.1 (by rw [HQO.out.2.2.1]; exact HK8.out) HQO.out.2.2.2 HFC.out (by rw [HQ.out]) ((Fr.refl _ _).alloc _) (by rw [← HQG.out]; exact ho8) (by rw [HQ.out]; exact hg8) (by rw [HQ.out]; exact hb8)
          have cX : w8.cell? ⟨g, 1, none⟩ = some (.slice B k e) := by
            have h1 := (Fr.ofGrown hg8).cell (p := ⟨g, 1, none⟩) (HI1.out.nofr HFD.out).bk.lt (fun x => own_apart HRP.out (HI1.out.nofr HFD.out).bk (by decide) x.symm)
            exact h1.trans (TC.out _ HFD.out)
          have fX : w8.frozen? ⟨g, 1, none⟩ = false := by
            have h1 := (Fr.ofGrown hg8).frozen (p := ⟨g, 1, none⟩) (HI1.out.nofr HFD.out).bk.lt (fun x => own_apart HRP.out (HI1.out.nofr HFD.out).bk (by decide) x.symm)
            exact h1.trans ((HI1.out.nofr HFD.out).bk.free 1)
          clear ho8 hg8 hb8 hHeld
          refine hK.out _ _ trivial (fun hHeld => ?_)
          clear hK K
          try simp only [Act.put, List.setIfInBounds_toArray, List.set_cons_zero, List.set_cons_succ]
          refine wpAnyH_take (i := 9) (oi := ⟨some 31, _, _, _, _, _⟩) (v := ?_) rfl (by kernel_rfl) (by kernel_rfl) (by kernel_rfl) (fun _ _ _ h => h) (Or.inl ⟨by rfl, ?_⟩) (by assumption) ?_
          rotate_left 1
          · (intro w hSw; (try dsimp only at hSw); go_simp) <;> (with_reducible rfl)
          try simp only [Act.put, List.setIfInBounds_toArray, List.set_cons_zero, List.set_cons_succ]
          refine wpAnyH_take (i := 10) (oi := ⟨some 32, _, _, _, _, _⟩) (v := ?_) rfl (by kernel_rfl) (by kernel_rfl) (by kernel_rfl) (fun _ _ _ h => h) (Or.inl ⟨by rfl, ?_⟩) (by assumption) ?_
          rotate_left 1
          · (intro w hSw; (try dsimp only at hSw); go_simp) <;> (with_reducible rfl)
          try simp only [Act.put, List.setIfInBounds_toArray, List.set_cons_zero, List.set_cons_succ]
          refine wpAnyH_ready (rs := [11]) (by kernel_rfl) (by simp) ?_
          refine AllReadyH.cons (o := ⟨none, _, _, _, _, _⟩) rfl (fun K hK => ?_) AllReadyH.nil
          go_simp
          clear hHeld
          refine hK.out _ _ trivial (fun hHeld => ?_)
          clear hK K
          try simp only [Act.put, List.setIfInBounds_toArray, List.set_cons_zero, List.set_cons_succ]
          refine wpAnyH_done (by kernel_rfl) ?_ _
          have HN2 : Hid ((qs ++ [q]).length = k + 1 ∧ (qs ++ [q]).map Tr.flat = (ks.take (k + 1)).map Tr.flat) := ⟨by rw [List.length_append, HQ.out]; rfl, by rw [HTK.out, List.map_append, List.map_append, HFL.out, List.map_singleton, List.map_singleton, HQO.out.2.1]⟩
          clear cX fX
          go_wp2_with fail
          go_roundw
          case rel => exact ⟨k + 1, qs ++ [q], B8, e8, by push_cast; rfl, by omega, HCL8.out, HN2.out⟩
          case measure => simp [intOf]; omega
        · go_simp
          go_at_call 62
          refine HTO.out.mono ?_
          rintro _ wc ⟨q, rfl, ho, hfl, hqn, hqo, hf⟩
          have HFC := Lib.hid hf
          have HQO := Lib.hid (And.intro ho (And.intro hfl (And.intro hqn hqo)))
          obtain ⟨qg, hqg⟩ : ∃ qg, qg = q.g := ⟨_, rfl⟩
          rw [← hqg]
          have HQG := Lib.hid hqg
          clear ho hfl hqn hqo hf hqg hHeld
          refine hK.out _ _ trivial (fun hHeld => ?_)
          clear hK K
          try simp only [Act.put, List.setIfInBounds_toArray, List.set_cons_zero, List.set_cons_succ]
          refine wpAnyH_ready (rs := [4, 7]) (by kernel_rfl) (by simp) ?_
          refine AllReadyH.cons (o := ⟨some 26, _, _, _, _, _⟩) rfl (fun K hK => ?_) (AllReadyH.cons (o := ⟨some 29, _, _, _, _, _⟩) rfl (fun K hK => ?_) AllReadyH.nil)
          · have cX := TC.out _ HFC.out
            go_simp
            clear hHeld
            refine hK.out _ _ trivial (fun hHeld => ?_)
            clear hK K cX
            try simp only [Act.put, List.setIfInBounds_toArray, List.set_cons_zero, List.set_cons_succ]
            refine wpAnyH_ready (rs := [7]) (by kernel_rfl) (by simp) ?_
            refine AllReadyH.cons (o := ⟨some 29, _, _, _, _, _⟩) rfl (fun K hK => ?_) AllReadyH.nil
            go_simp
            clear hHeld
            refine hK.out _ _ trivial (fun hHeld => ?_)
            clear hK K
            try simp only [Act.put, List.setIfInBounds_toArray, List.set_cons_zero, List.set_cons_succ]
            refine wpAnyH_ready (rs := [8]) (by kernel_rfl) (by simp) ?_
            refine AllReadyH.cons (o := ⟨some 30, _, _, _, _, _⟩) rfl (fun K hK => ?_) AllReadyH.nil
            have HRS : Hid (Rd (wc.alloc (.cells #[.pointer (some ⟨qg, 0, none⟩)] 98)) (some ⟨wc.heap.size, 0, none⟩) [ptr qg]) := Rd.of_cells (Bk.new wc 98 #[.pointer (some ⟨qg, 0, none⟩)])
            have HFD : Hid (Fr NoBlk wr.drew (wc.alloc (.cells #[.pointer (some ⟨qg, 0, none⟩)] 98))) := HFC.out.alloc _
            have HRP : Hid ((wc.alloc (.cells #[.pointer (some ⟨qg, 0, none⟩)] 98)).ownsRow w.heap.size 98 1 (.slice B k e) k ((qs.map Tr.g).map ptr)) := by
              have h := (HI1.out.nofr HFD.out).rp
              rw [HQ.out] at h
              exact h
            refine step_appW rfl _ _ 100 rfl w.heap.size 98 i1 _ 1 8 Try.underlying100 hi hz0 hz1 hz2 rfl (by decide) (.slice B k e) k ((qs.map Tr.g).map ptr) rfl HRP.out (some ⟨wc.heap.size, 0, none⟩) 1 1 [ptr qg] rfl rfl HRS.out (own_ptrs_one [qg]) (fun e => by cases e) (by unfold maxLen; omega) (by omega) (HI1.out.nofr HFD.out).fr.size ?_
            intro v8 w8 ho8 hg8 hb8
            obtain ⟨B8, e8, rfl, _, _⟩ := own_form ho8
            have HCL8 : Hid (Clo w w2 g A1 n c1 B8 e8 hxs (qs ++ [q]) (w8.setCell ⟨g, 1, none⟩ (.slice B8 (k + 1) e8))) := HI1.out.push HQO.out.1 (by rw [HQO.out.2.2.1]; exact HK8.out) HQO.out.2.2.2 HFC.out (by rw [HQ.out]) ((Fr.refl _ _).alloc _) (by rw [← HQG.out]; exact ho8) (by rw [HQ.out]; exact hg8) (by rw [HQ.out]; exact hb8)
            have cX : w8.cell? ⟨g, 1, none⟩ = some (.slice B k e) := by
              have h1 := (Fr.ofGrown hg8).cell (p := ⟨g, 1, none⟩) (HI1.out.nofr HFD.out).bk.lt (fun x => own_apart HRP.out (HI1.out.nofr HFD.out).bk (by decide) x.symm)
              exact h1.trans (TC.out _ HFD.out)
            have fX : w8.frozen? ⟨g, 1, none⟩ = false := by
              have h1 := (Fr.ofGrown hg8).frozen (p := ⟨g, 1, none⟩) (HI1.out.nofr HFD.out).bk.lt (fun x => own_apart HRP.out (HI1.out.nofr HFD.out).bk (by decide) x.symm)
              exact h1.trans ((HI1.out.nofr HFD.out).bk.free 1)
            clear ho8 hg8 hb8 hHeld
            refine hK.out _ _ trivial (fun hHeld => ?_)
            clear hK K
            try simp only [Act.put, List.setIfInBounds_toArray, List.set_cons_zero, List.set_cons_succ]
            refine wpAnyH_take (i := 9) (oi := ⟨some 31, _, _, _, _, _⟩) (v := ?_) rfl (by kernel_rfl) (by kernel_rfl) (by kernel_rfl) (fun _ _ _ h => h) (Or.inl ⟨by rfl, ?_⟩) (by assumption) ?_
            rotate_left 1
            · (intro w hSw; (try dsimp only at hSw); go_simp) <;> (with_reducible rfl)
            try simp only [Act.put, List.setIfInBounds_toArray, List.set_cons_zero, List.set_cons_succ]
            refine wpAnyH_take (i := 10) (oi := ⟨some 32, _, _, _, _, _⟩) (v := ?_) rfl (by kernel_rfl) (by kernel_rfl) (by kernel_rfl) (fun _ _ _ h => h) (Or.inl ⟨by rfl, ?_⟩) (by assumption) ?_
            rotate_left 1
            · (intro w hSw; (try dsimp only at hSw); go_simp) <;> (with_reducible rfl)
            try simp only [Act.put, List.setIfInBounds_toArray, List.set_cons_zero, List.set_cons_succ]
            refine wpAnyH_ready (rs := [11]) (by kernel_rfl) (by simp) ?_
            refine AllReadyH.cons (o := ⟨none, _, _, _, _, _⟩) rfl (fun K hK => ?_) AllReadyH.nil
            go_simp
            clear hHeld
            refine hK.out _ _ trivial (fun hHeld => ?_)
            clear hK K
            try simp only [Act.put, List.setIfInBounds_toArray, List.set_cons_zero, List.set_cons_succ]
            refine wpAnyH_done (by kernel_rfl) ?_ _
            have HN2 : Hid ((qs ++ [q]).length = k + 1 ∧ (qs ++ [q]).map Tr.flat = (ks.take (k + 1)).map Tr.flat) := ⟨by rw [List.length_append, HQ.out]; rfl, by rw [HTK.out, List.map_append, List.map_append, HFL.out, List.map_singleton, List.map_singleton, HQO.out.2.1]⟩
            clear cX fX
            go_wp2_with fail
            go_roundw
            case rel => exact ⟨k + 1, qs ++ [q], B8, e8, by push_cast; rfl, by omega, HCL8.out, HN2.out⟩
            case measure => simp [intOf]; omega
          · go_simp
            clear hHeld
            refine hK.out _ _ trivial (fun hHeld => ?_)
            clear hK K
            try simp only [Act.put, List.setIfInBounds_toArray, List.set_cons_zero, List.set_cons_succ]
            refine wpAnyH_ready (rs := [4]) (by kernel_rfl) (by simp) ?_
            refine AllReadyH.cons (o := ⟨some 26, _, _, _, _, _⟩) rfl (fun K hK => ?_) AllReadyH.nil
            have cX := TC.out _ (HFC.out.alloc (.cells #[.pointer (some ⟨qg, 0, none⟩)] 98))
            go_simp
            clear hHeld
            refine hK.out _ _ trivial (fun hHeld => ?_)
            clear hK K cX
            try simp only [Act.put, List.setIfInBounds_toArray, List.set_cons_zero, List.set_cons_succ]
            refine wpAnyH_ready (rs := [8]) (by kernel_rfl) (by simp) ?_
            refine AllReadyH.cons (o := ⟨some 30, _, _, _, _, _⟩) rfl (fun K hK => ?_) AllReadyH.nil
            have HRS : Hid (Rd (wc.alloc (.cells #[.pointer (some ⟨qg, 0, none⟩)] 98)) (some ⟨wc.heap.size, 0, none⟩) [ptr qg]) := Rd.of_cells (Bk.new wc 98 #[.pointer (some ⟨qg, 0, none⟩)])
            have HFD : Hid (Fr NoBlk wr.drew (wc.alloc (.cells #[.pointer (some ⟨qg, 0, none⟩)] 98))) := HFC.out.alloc _
            have HRP : Hid ((wc.alloc (.cells #[.pointer (some ⟨qg, 0, none⟩)] 98)).ownsRow w.heap.size 98 1 (.slice B k e) k ((qs.map Tr.g).map ptr)) := by
              have h := (HI1.out.nofr HFD.out).rp
              rw [HQ.out] at h
              exact h
            refine step_appW rfl _ _ 100 rfl w.heap.size 98 i1 _ 1 8 Try.underlying100 hi hz0 hz1 hz2 rfl (by decide) (.slice B k e) k ((qs.map Tr.g).map ptr) rfl HRP.out (some ⟨wc.heap.size, 0, none⟩) 1 1 [ptr qg] rfl rfl HRS.out (own_ptrs_one [qg]) (fun e => by cases e) (by unfold maxLen; omega) (by omega) (HI1.out.nofr HFD.out).fr.size ?_
            intro v8 w8 ho8 hg8 hb8
            obtain ⟨B8, e8, rfl, _, _⟩ := own_form ho8
            have HCL8 : Hid (Clo w w2 g A1 n c1 B8 e8 hxs (qs ++ [q]) (w8.setCell ⟨g, 1, none⟩ (.slice B8 (k + 1) e8))) := HI1.out.push HQO.out.1 (by rw [HQO.out.2.2.1]; exact HK8.out) HQO.out.2.2.2 HFC.out (by rw [HQ.out]) ((Fr.refl _ _).alloc _) (by rw [← HQG.out]; exact ho8) (by rw [HQ.out]; exact hg8) (by rw [HQ.out]; exact hb8)
            have cX : w8.cell? ⟨g, 1, none⟩ = some (.slice B k e) := by
              have h1 := (Fr.ofGrown hg8).cell (p := ⟨g, 1, none⟩) (HI1.out.nofr HFD.out).bk.lt (fun x => own_apart HRP.out (HI1.out.nofr HFD.out).bk (by decide) x.symm)
              exact h1.trans (TC.out _ HFD.out)
            have fX : w8.frozen? ⟨g, 1, none⟩ = false := by
              have h1 := (Fr.ofGrown hg8).frozen (p := ⟨g, 1, none⟩) (HI1.out.nofr HFD.out).bk.lt (fun x => own_apart HRP.out (HI1.out.nofr HFD.out).bk (by decide) x.symm)
              exact h1.trans ((HI1.out.nofr HFD.out).bk.free 1)
            clear ho8 hg8 hb8 hHeld
            refine hK.out _ _ trivial (fun hHeld => ?_)
            clear hK K
            try simp only [Act.put, List.setIfInBounds_toArray, List.set_cons_zero, List.set_cons_succ]
            refine wpAnyH_take (i := 9) (oi := ⟨some 31, _, _, _, _, _⟩) (v := ?_) rfl (by kernel_rfl) (by kernel_rfl) (by kernel_rfl) (fun _ _ _ h => h) (Or.inl ⟨by rfl, ?_⟩) (by assumption) ?_
            rotate_left 1
            · (intro w hSw; (try dsimp only at hSw); go_simp) <;> (with_reducible rfl)
            try simp only [Act.put, List.setIfInBounds_toArray, List.set_cons_zero, List.set_cons_succ]
            refine wpAnyH_take (i := 10) (oi := ⟨some 32, _, _, _, _, _⟩) (v := ?_) rfl (by kernel_rfl) (by kernel_rfl) (by kernel_rfl) (fun _ _ _ h => h) (Or.inl ⟨by rfl, ?_⟩) (by assumption) ?_
            rotate_left 1
            · (intro w hSw; (try dsimp only at hSw); go_simp) <;> (with_reducible rfl)
            try simp only [Act.put, List.setIfInBounds_toArray, List.set_cons_zero, List.set_cons_succ]
            refine wpAnyH_ready (rs := [11]) (by kernel_rfl) (by simp) ?_
            refine AllReadyH.cons (o := ⟨none, _, _, _, _, _⟩) rfl (fun K hK => ?_) AllReadyH.nil
            go_simp
            clear hHeld
            refine hK.out _ _ trivial (fun hHeld => ?_)
            clear hK K
            try simp only [Act.put, List.setIfInBounds_toArray, List.set_cons_zero, List.set_cons_succ]
            refine wpAnyH_done (by kernel_rfl) ?_ _
            have HN2 : Hid ((qs ++ [q]).length = k + 1 ∧ (qs ++ [q]).map Tr.flat = (ks.take (k + 1)).map Tr.flat) := ⟨by rw [List.length_append, HQ.out]; rfl, by rw [HTK.out, List.map_append, List.map_append, HFL.out, List.map_singleton, List.map_singleton, HQO.out.2.1]⟩
            clear cX fX
            go_wp2_with fail
            go_roundw
            case rel => exact ⟨k + 1, qs ++ [q], B8, e8, by push_cast; rfl, by omega, HCL8.out, HN2.out⟩
            case measure => simp [intOf]; omega
      · have hki : ¬ (k : Int) < (np : Int) := by omega
        have HE : Hid (k = np) := by show k = np; omega
        go_wp2_with fail
        go_ret
        refine HI.out.1.done (hd := ⟨hg, hA, hc, some ⟨pb, 0, none⟩, he, hxs⟩) rfl HN.out ?_ HKS.out
        rw [HI.out.2.2, HE.out, HNP.out, List.take_length]
end Go.Proofs.Ytkdcacajacndmaa

namespace Go.Proofs.Ytkdcacajacndmaa
open Go.RowKit
def TreeCloneR (w : World) (xs : List ItR) (e : Ending) (w' : World) : Prop :=
  ∃ g' O', e = .returned (.pointer (some ⟨g', 0, none⟩)) ∧ TreeR w' g' O' xs ∧ (∀ b, O' b → w.heap.size ≤ b) ∧ Fr NoBlk w w'
set_option maxRecDepth 100000 in
set_option maxHeartbeats 1000000 in
theorem treeCloneR_any (w : World) (g : Nat) (O : Nat → Prop) (xs : List ItR) (h : TreeR w g O xs) :
    Calls Try.prog 48 #[.pointer (some ⟨g, 0, none⟩)] w (TreeCloneR w xs) := by
  obtain ⟨d, t, h1, ho, rfl, hu, hn, hd, hg, hO⟩ := h
  obtain ⟨n, hnn⟩ : ∃ n, n = t.flat.length := ⟨_, rfl⟩
  rw [← hnn] at h1
  obtain ⟨tg, htg⟩ : ∃ tg, tg = t.g := ⟨_, rfl⟩
  have h1' : Bk w g 104 #[.pointer (some ⟨tg, 0, none⟩), .int .i64 n] := by rw [htg]; exact h1
  have TC : Hid (∀ W, Fr NoBlk w W → W.cell? ⟨g, 0, none⟩ = some (.pointer (some ⟨tg, 0, none⟩)) ∧ W.cell? ⟨g, 1, none⟩ = some (.int .i64 n)) := fun W hW => ⟨(h1'.fr hW fun e => e).cell 0, (h1'.fr hW fun e => e).cell 1⟩
  have HTO : Hid (Calls Try.prog 62 #[.pointer (some ⟨tg, 0, none⟩)] w.drew (CloneP w.drew t)) := by rw [htg]; exact nodeCloneR_any w.drew t (ho.fr (Fr.refl NoBlk w).drew fun _ _ e => e) hn
  have HN := Lib.hid hnn
  have HU := Lib.hid (And.intro hu (And.intro hn hd))
  have HL := Lib.hid h1'.lt
  clear h1 h1' ho hu hn hd hg hO hnn htg
  go_enter Try.func48, Try.ntmps48
  go_wp2_with fail
  refine wp_region_held_drew (S := fun w' => w'.cell? ⟨g, 0, none⟩ = some (.pointer (some ⟨tg, 0, none⟩)) ∧ w'.cell? ⟨g, 1, none⟩ = some (.int .i64 n)) (by kernel_rfl) (TC.out _ (Fr.refl _ _).drew) (fun hHeld => ?_)
  refine wpAnyH_take (i := 0) (oi := ⟨some 3, _, _, _, _, _⟩) (v := ?_) rfl (by kernel_rfl) (by kernel_rfl) (by kernel_rfl) (fun _ _ _ h => h) (Or.inl ⟨by rfl, ?_⟩) (by assumption) ?_
  rotate_left 1
  · (intro w hSw; (try dsimp only at hSw); obtain ⟨hS1, hS2⟩ := hSw; go_simp) <;> (with_reducible rfl)
  try simp only [Act.put, List.setIfInBounds_toArray, List.set_cons_zero, List.set_cons_succ]
  refine wpAnyH_take (i := 1) (oi := ⟨some 4, _, _, _, _, _⟩) (v := ?_) rfl (by kernel_rfl) (by kernel_rfl) (by kernel_rfl) (fun _ _ _ h => h) (Or.inl ⟨by rfl, ?_⟩) (by assumption) ?_
  rotate_left 1
  · (intro w hSw; (try dsimp only at hSw); obtain ⟨hS1, hS2⟩ := hSw; go_simp) <;> (with_reducible rfl)
  try simp only [Act.put, List.setIfInBounds_toArray, List.set_cons_zero, List.set_cons_succ]
  refine wpAnyH_take (i := 2) (oi := ⟨some 5, _, _, _, _, _⟩) (v := ?_) rfl (by kernel_rfl) (by kernel_rfl) (by kernel_rfl) (fun _ _ _ h => h) (Or.inl ⟨by rfl, ?_⟩) (by assumption) ?_
  rotate_left 1
  · (intro w hSw; (try dsimp only at hSw); obtain ⟨hS1, hS2⟩ := hSw; go_simp) <;> (with_reducible rfl)
  try simp only [Act.put, List.setIfInBounds_toArray, List.set_cons_zero, List.set_cons_succ]
  refine wpAnyH_take (i := 3) (oi := ⟨some 6, _, _, _, _, _⟩) (v := ?_) rfl (by kernel_rfl) (by kernel_rfl) (by kernel_rfl) (fun _ _ _ h => h) (Or.inl ⟨by rfl, ?_⟩) (by assumption) ?_
  rotate_left 1
  · (intro w hSw; (try dsimp only at hSw); obtain ⟨hS1, hS2⟩ := hSw; go_simp) <;> (with_reducible rfl)
  try simp only [Act.put, List.setIfInBounds_toArray, List.set_cons_zero, List.set_cons_succ]
  refine wpAnyH_take (i := 5) (oi := ⟨some 8, _, _, _, _, _⟩) (v := ?_) rfl (by kernel_rfl) (by kernel_rfl) (by kernel_rfl) (fun _ _ _ h => h) (Or.inl ⟨by rfl, ?_⟩) (by assumption) ?_
  rotate_left 1
  · (intro w hSw; (try dsimp only at hSw); obtain ⟨hS1, hS2⟩ := hSw; go_simp) <;> (with_reducible rfl)
  try simp only [Act.put, List.setIfInBounds_toArray, List.set_cons_zero, List.set_cons_succ]
  refine wpAnyH_take (i := 6) (oi := ⟨some 9, _, _, _, _, _⟩) (v := ?_) rfl (by kernel_rfl) (by kernel_rfl) (by kernel_rfl) (fun _ _ _ h => h) (Or.inl ⟨by rfl, ?_⟩) (by assumption) ?_
  rotate_left 1
  · (intro w hSw; (try dsimp only at hSw); obtain ⟨hS1, hS2⟩ := hSw; go_simp) <;> (with_reducible rfl)
  try simp only [Act.put, List.setIfInBounds_toArray, List.set_cons_zero, List.set_cons_succ]
  refine wpAnyH_take (i := 7) (oi := ⟨some 10, _, _, _, _, _⟩) (v := ?_) rfl (by kernel_rfl) (by kernel_rfl) (by kernel_rfl) (fun _ _ _ h => h) (Or.inl ⟨by rfl, ?_⟩) (by assumption) ?_
  rotate_left 1
  · (intro w hSw; (try dsimp only at hSw); obtain ⟨hS1, hS2⟩ := hSw; go_simp) <;> (with_reducible rfl)
  try simp only [Act.put, List.setIfInBounds_toArray, List.set_cons_zero, List.set_cons_succ]
  refine wpAnyH_take (i := 8) (oi := ⟨some 11, _, _, _, _, _⟩) (v := ?_) rfl (by kernel_rfl) (by kernel_rfl) (by kernel_rfl) (fun _ _ _ h => h) (Or.inl ⟨by rfl, ?_⟩) (by assumption) ?_
  rotate_left 1
  · (intro w hSw; (try dsimp only at hSw); obtain ⟨hS1, hS2⟩ := hSw; go_simp) <;> (with_reducible rfl)
  try simp only [Act.put, List.setIfInBounds_toArray, List.set_cons_zero, List.set_cons_succ]
  refine wpAnyH_ready (rs := [4]) (by kernel_rfl) (by simp) ?_
  refine AllReadyH.cons (o := ⟨some 7, _, _, _, _, _⟩) rfl (fun K hK => ?_) AllReadyH.nil
  go_simp
  go_at_call 62
  refine HTO.out.mono ?_
  rintro _ wc ⟨q, rfl, hq, hfl, hqn, hqo, hf⟩
  have HFC : Hid (Fr NoBlk w wc) := (Fr.refl NoBlk w).drew.trans hf
  have HQ := Lib.hid (And.intro hq (And.intro hfl (And.intro hqn hqo)))
  obtain ⟨qg, hqg⟩ : ∃ qg, qg = q.g := ⟨_, rfl⟩
  rw [← hqg]
  have HQG := Lib.hid hqg
  clear hq hfl hqn hqo hf hqg hHeld
  refine hK.out _ _ ?_ (fun hHeld => ?_)
  · exact TC.out _ HFC.out
  clear hK K
  try simp only [Act.put, List.setIfInBounds_toArray, List.set_cons_zero, List.set_cons_succ]
  refine wpAnyH_take (i := 9) (oi := ⟨some 12, _, _, _, _, _⟩) (v := ?_) rfl (by kernel_rfl) (by kernel_rfl) (by kernel_rfl) (fun _ _ _ h => h) (Or.inl ⟨by rfl, ?_⟩) (by assumption) ?_
  rotate_left 1
  · (intro w hSw; (try dsimp only at hSw); obtain ⟨hS1, hS2⟩ := hSw; go_simp) <;> (with_reducible rfl)
  try simp only [Act.put, List.setIfInBounds_toArray, List.set_cons_zero, List.set_cons_succ]
  refine wpAnyH_ready (rs := [10]) (by kernel_rfl) (by simp) ?_
  refine AllReadyH.cons (o := ⟨some 13, _, _, _, _, _⟩) rfl (fun K hK => ?_) AllReadyH.nil
  go_simp
  clear hHeld
  refine hK.out _ _ ?_ (fun hHeld => ?_)
  · exact TC.out _ (HFC.out.alloc _)
  clear hK K
  try simp only [Act.put, List.setIfInBounds_toArray, List.set_cons_zero, List.set_cons_succ]
  refine wpAnyH_take (i := 11) (oi := ⟨some 2, _, _, _, _, _⟩) (v := ?_) rfl (by kernel_rfl) (by kernel_rfl) (by kernel_rfl) (fun _ _ _ h => h) (Or.inl ⟨by rfl, ?_⟩) (by assumption) ?_
  rotate_left 1
  · (intro w hSw; (try dsimp only at hSw); obtain ⟨hS1, hS2⟩ := hSw; go_simp) <;> (with_reducible rfl)
  try simp only [Act.put, List.setIfInBounds_toArray, List.set_cons_zero, List.set_cons_succ]
  refine wpAnyH_done (by kernel_rfl) ?_ _
  go_wp2_with fail
  go_ret
  have hfa : Fr NoBlk wc (wc.alloc (.cells #[.pointer (some ⟨qg, 0, none⟩), .int .i64 n] 104)) := (Fr.refl _ _).alloc _
  refine ⟨wc.heap.size, fun b => b = wc.heap.size ∨ q.own b, rfl, ⟨d, q, ?_, HQ.out.1.fr hfa fun _ _ e => e, HQ.out.2.1, HU.out.1, by rw [HQ.out.2.2.1]; exact HU.out.2.1, by rw [HQ.out.2.2.1]; exact HU.out.2.2, fun e => by have := HQ.out.1.lt e; omega, fun b => Iff.rfl⟩, fun b hb => ?_, HFC.out.trans hfa⟩
  · have hb := Bk.new wc 104 #[.pointer (some ⟨qg, 0, none⟩), .int .i64 n]
    rw [HQG.out, HN.out] at hb
    rw [HQG.out, HN.out]
    exact hb
  · rcases hb with rfl | hb
    · exact HFC.out.size
    · exact HQ.out.2.2.2 b hb
end Go.Proofs.Ytkdcacajacndmaa

namespace Go.Proofs.Ytkdcacajacndmaa
open Go.RowKit
set_option maxRecDepth 100000 in
set_option maxHeartbeats 2000000 in
theorem sclone_any [Ex] (w : World) (g : Nat) (O : Nat → Prop) (n : Nat) (rs : List Rw) (h : Store w g O n rs) :
    Calls Try.prog 25 #[.pointer (some ⟨g, 0, none⟩)] w fun e w' => ∃ g' O', e = .returned (.pointer (some ⟨g', 0, none⟩)) ∧ Store w' g' O' n rs ∧ (∀ b, O' b → w.heap.size ≤ b) ∧ Fr NoBlk w w' := by
  obtain ⟨gt, OT, zs, hs, rfl⟩ := h
  have HS := Lib.hid hs
  have HSK : Hid (∀ w', Fr NoBlk w w' → w'.cell? ⟨g, 0, none⟩ = some (.int .i64 (n : Int)) ∧ w'.cell? ⟨g, 1, none⟩ = some (.pointer (some ⟨gt, 0, none⟩))) := fun w' hf => ⟨(hs.bk.fr hf fun e => e).cell 0, (hs.bk.fr hf fun e => e).cell 1⟩
  have HTC : Hid (∀ w', Fr NoBlk w w' → Calls Try.prog 48 #[.pointer (some ⟨gt, 0, none⟩)] w' (TreeCloneR w' (vz zs))) := fun w' hf => treeCloneR_any w' gt OT (vz zs) (hs.tr.fr hf fun _ _ e => e)
  clear hs
  go_enter Try.func25, Try.ntmps25
  go_wp2_with fail
  refine wp_region_held_drew (S := fun w' => Fr NoBlk w w') (by kernel_rfl) ((Fr.refl _ _).drew) (fun hHeld => ?_)
  refine wpAnyH_take (i := 0) (oi := ⟨some 3, _, _, _, _, _⟩) (v := ?_) rfl (by kernel_rfl) (by kernel_rfl) (by kernel_rfl) (fun _ _ _ h => h) (Or.inl ⟨by rfl, ?_⟩) (by assumption) ?_
  rotate_left 1
  · (intro w hSw; (try dsimp only at hSw); obtain ⟨y0, y1⟩ := HSK.out _ hSw; go_simp) <;> (with_reducible rfl)
  try simp only [Act.put, List.setIfInBounds_toArray, List.set_cons_zero, List.set_cons_succ]
  refine wpAnyH_take (i := 1) (oi := ⟨some 4, _, _, _, _, _⟩) (v := ?_) rfl (by kernel_rfl) (by kernel_rfl) (by kernel_rfl) (fun _ _ _ h => h) (Or.inl ⟨by rfl, ?_⟩) (by assumption) ?_
  rotate_left 1
  · (intro w hSw; (try dsimp only at hSw); obtain ⟨y0, y1⟩ := HSK.out _ hSw; go_simp) <;> (with_reducible rfl)
  try simp only [Act.put, List.setIfInBounds_toArray, List.set_cons_zero, List.set_cons_succ]
  refine wpAnyH_take (i := 2) (oi := ⟨some 5, _, _, _, _, _⟩) (v := ?_) rfl (by kernel_rfl) (by kernel_rfl) (by kernel_rfl) (fun _ _ _ h => h) (Or.inl ⟨by rfl, ?_⟩) (by assumption) ?_
  rotate_left 1
  · (intro w hSw; (try dsimp only at hSw); obtain ⟨y0, y1⟩ := HSK.out _ hSw; go_simp) <;> (with_reducible rfl)
  try simp only [Act.put, List.setIfInBounds_toArray, List.set_cons_zero, List.set_cons_succ]
  refine wpAnyH_take (i := 3) (oi := ⟨some 6, _, _, _, _, _⟩) (v := ?_) rfl (by kernel_rfl) (by kernel_rfl) (by kernel_rfl) (fun _ _ _ h => h) (Or.inl ⟨by rfl, ?_⟩) (by assumption) ?_
  rotate_left 1
  · (intro w hSw; (try dsimp only at hSw); obtain ⟨y0, y1⟩ := HSK.out _ hSw; go_simp) <;> (with_reducible rfl)
  try simp only [Act.put, List.setIfInBounds_toArray, List.set_cons_zero, List.set_cons_succ]
  refine wpAnyH_take (i := 4) (oi := ⟨some 7, _, _, _, _, _⟩) (v := ?_) rfl (by kernel_rfl) (by kernel_rfl) (by kernel_rfl) (fun _ _ _ h => h) (Or.inl ⟨by rfl, ?_⟩) (by assumption) ?_
  rotate_left 1
  · (intro w hSw; (try dsimp only at hSw); obtain ⟨y0, y1⟩ := HSK.out _ hSw; go_simp) <;> (with_reducible rfl)
  try simp only [Act.put, List.setIfInBounds_toArray, List.set_cons_zero, List.set_cons_succ]
  refine wpAnyH_take (i := 5) (oi := ⟨some 8, _, _, _, _, _⟩) (v := ?_) rfl (by kernel_rfl) (by kernel_rfl) (by kernel_rfl) (fun _ _ _ h => h) (Or.inl ⟨by rfl, ?_⟩) (by assumption) ?_
  rotate_left 1
  · (intro w hSw; (try dsimp only at hSw); obtain ⟨y0, y1⟩ := HSK.out _ hSw; go_simp) <;> (with_reducible rfl)
  try simp only [Act.put, List.setIfInBounds_toArray, List.set_cons_zero, List.set_cons_succ]
  refine wpAnyH_take (i := 6) (oi := ⟨some 9, _, _, _, _, _⟩) (v := ?_) rfl (by kernel_rfl) (by kernel_rfl) (by kernel_rfl) (fun _ _ _ h => h) (Or.inl ⟨by rfl, ?_⟩) (by assumption) ?_
  rotate_left 1
  · (intro w hSw; (try dsimp only at hSw); obtain ⟨y0, y1⟩ := HSK.out _ hSw; go_simp) <;> (with_reducible rfl)
  try simp only [Act.put, List.setIfInBounds_toArray, List.set_cons_zero, List.set_cons_succ]
  refine wpAnyH_take (i := 7) (oi := ⟨some 10, _, _, _, _, _⟩) (v := ?_) rfl (by kernel_rfl) (by kernel_rfl) (by kernel_rfl) (fun _ _ _ h => h) (Or.inl ⟨by rfl, ?_⟩) (by assumption) ?_
  rotate_left 1
  · (intro w hSw; (try dsimp only at hSw); obtain ⟨y0, y1⟩ := HSK.out _ hSw; go_simp) <;> (with_reducible rfl)
  try simp only [Act.put, List.setIfInBounds_toArray, List.set_cons_zero, List.set_cons_succ]
  refine wpAnyH_ready (rs := [8]) (by kernel_rfl) (by simp) ?_
  refine AllReadyH.cons (o := ⟨some 11, _, _, _, _, _⟩) rfl (fun K hK => ?_) AllReadyH.nil
  have hSw := hHeld
  go_simp
  go_at_call 48
  refine (HTC.out _ hSw).mono ?_
  rintro e w2 ⟨gt2, O2, rfl, ht2, hO2, hf2⟩
  have HT2 : Hid (TreeR w2 gt2 O2 (vz zs) ∧ (∀ b, O2 b → w.heap.size ≤ b) ∧ Fr NoBlk w w2) := ⟨ht2, fun b hb => Nat.le_trans hSw.size (hO2 b hb), hSw.trans hf2⟩
  clear ht2 hO2 hf2
  refine hK.out _ _ ?_ (fun hHeld => ?_)
  · exact HT2.out.2.2
  clear hK K
  try simp only [Act.put, List.setIfInBounds_toArray, List.set_cons_zero, List.set_cons_succ]
  refine wpAnyH_take (i := 9) (oi := ⟨some 12, _, _, _, _, _⟩) (v := ?_) rfl (by kernel_rfl) (by kernel_rfl) (by kernel_rfl) (fun _ _ _ h => h) (Or.inl ⟨by rfl, ?_⟩) (by assumption) ?_
  rotate_left 1
  · (intro w hSw; (try dsimp only at hSw); obtain ⟨y0, y1⟩ := HSK.out _ hSw; go_simp) <;> (with_reducible rfl)
  try simp only [Act.put, List.setIfInBounds_toArray, List.set_cons_zero, List.set_cons_succ]
  refine wpAnyH_ready (rs := [10]) (by kernel_rfl) (by simp) ?_
  refine AllReadyH.cons (o := ⟨some 13, _, _, _, _, _⟩) rfl (fun K hK => ?_) AllReadyH.nil
  go_simp
  refine hK.out _ _ ?_ (fun hHeld => ?_)
  · exact HT2.out.2.2.alloc _
  clear hK K
  try simp only [Act.put, List.setIfInBounds_toArray, List.set_cons_zero, List.set_cons_succ]
  refine wpAnyH_take (i := 11) (oi := ⟨some 2, _, _, _, _, _⟩) (v := ?_) rfl (by kernel_rfl) (by kernel_rfl) (by kernel_rfl) (fun _ _ _ h => h) (Or.inl ⟨by rfl, ?_⟩) (by assumption) ?_
  rotate_left 1
  · (intro w hSw; (try dsimp only at hSw); obtain ⟨y0, y1⟩ := HSK.out _ hSw; go_simp) <;> (with_reducible rfl)
  try simp only [Act.put, List.setIfInBounds_toArray, List.set_cons_zero, List.set_cons_succ]
  refine wpAnyH_done (by kernel_rfl) ?_ _
  have HF3 : Hid (Fr NoBlk w (w2.alloc (.cells #[.int .i64 (n : Int), .pointer (some ⟨gt2, 0, none⟩)] 68))) := HT2.out.2.2.alloc _
  have HST : Hid (StoreIn (w2.alloc (.cells #[.int .i64 (n : Int), .pointer (some ⟨gt2, 0, none⟩)] 68)) w2.heap.size gt2 (fun b => b = w2.heap.size ∨ O2 b) O2 n zs) :=
    ⟨Bk.new _ _ _, HT2.out.1.fr ((Fr.refl NoBlk w2).alloc _) fun _ _ e => e, fun z hz => (HS.out.rd z hz).nofr HF3.out, fun _ => Iff.rfl, fun e => Nat.lt_irrefl _ (HT2.out.1.lt e), HS.out.n3, HS.out.cnt, HS.out.lx.le HF3.out.size⟩
  clear hHeld
  go_wp2_with fail
  go_ret
  exact ⟨w2.heap.size, _, rfl, ⟨gt2, O2, zs, HST.out, rfl⟩, fun b hb => hb.elim (fun e => by rw [e]; exact HT2.out.2.2.size) (HT2.out.2.1 b), HF3.out⟩
/-- rows that calls make. -/
def Good (n : Nat) (rs : List Rw) : Prop := ∀ x ∈ rs, canB n x.1 x.2 = true
def halfB (n : Nat) (key : Bs) (r : Rec) : Bool := (r.has || r.val.length == 0) && (r.count != 0 || r.home == homeOf key (n : Int))
theorem Good.get {n : Nat} {rs : List Rw} (h : Good n rs) (key : Bs) : halfB n key (rget (n : Int) rs key) = true := by
  unfold rget
  cases hf : rs.find? fun x => x.1 == key with
  | none => simp [halfB]
  | some x =>
    have h1 := h x (List.mem_of_find?_eq_some hf)
    have h2 := List.find?_some hf
    have h3 : x.1 = key := by simpa using h2
    unfold canB at h1
    rw [Bool.and_eq_true] at h1
    rw [← h3]
    exact h1.2
theorem Good.set {n : Nat} {rs : List Rw} (h : Good n rs) (key : Bs) (r : Rec) (hr : halfB n key r = true) : Good n (rset rs key r) := fun z hz => by
  unfold rset at hz
  split at hz
  · rename_i hk
    rcases mem_putL' hz with rfl | hz
    · unfold canB
      unfold halfB at hr
      rw [Bool.and_eq_true]
      exact ⟨hk, hr⟩
    · exact h z hz
  · exact h z (mem_delL' hz)
theorem Good.step {n : Nat} {rs : List Rw} (h : Good n rs) (x : Opn) : Good n (dstep n rs x) := by
  have hg := h.get x.name
  unfold halfB at hg
  rw [Bool.and_eq_true] at hg
  unfold dstep
  split
  · refine h.set _ _ ?_
    unfold halfB
    rw [Bool.and_eq_true]
    exact ⟨rfl, hg.2⟩
  · split
    · unfold moveR
      split
      · refine h.set _ _ ?_
        unfold halfB
        rw [Bool.and_eq_true]
        exact ⟨hg.1, by simp⟩
      · exact h
    · split
      · exact h
      · refine h.set _ _ ?_
        unfold halfB
        rw [Bool.and_eq_true]
        exact ⟨rfl, hg.2⟩
theorem good_rows {n k : Nat} {rs : List Rw} (h : Good n rs) (hh : Homes n rs) (hl : Lim k rs) (hk : k ≤ 99999) : ∀ x ∈ rs, GoodRow n x := fun x hx =>
  ⟨h x hx, by have := (hl.2 x hx).2.2; omega, by have := (hl.2 x hx).1; omega, hh x hx, by have := (hl.2 x hx).2.1; omega⟩
/-- a Trio beside what was made from lo on till w2. -/
def Quad (W w2 w : World) (lo ga gm gb n : Nat) (ra rm rb : List Rw) : Prop :=
  ∃ O OM o OB, @PairS ⟨o⟩ W w ga gm n ra rm O OM ∧ @Store ⟨none⟩ w gb OB n rb ∧ (∀ b, OB b → ¬ O b ∧ ¬ OM b) ∧ (∀ b, OB b → W.heap.size ≤ b) ∧ (∀ b, O b ∨ OM b → b < lo ∨ w2.heap.size ≤ b) ∧ Fr (fun b => b < lo) w2 w
theorem Quad.trio {W w2 w : World} {lo ga gm gb n : Nat} {ra rm rb : List Rw} (h : Quad W w2 w lo ga gm gb n ra rm rb) : Trio W w ga gm gb n ra rm rb := by
  obtain ⟨O, OM, o, OB, h1, h2, h3, h4, _⟩ := h
  exact ⟨O, OM, o, OB, h1, h2, h3, h4⟩
theorem Quad.nofr {W w2 w w' : World} {lo ga gm gb n : Nat} {ra rm rb : List Rw} (h : Quad W w2 w lo ga gm gb n ra rm rb) (hf : Fr NoBlk w w') : Quad W w2 w' lo ga gm gb n ra rm rb := by
  obtain ⟨O, OM, o, OB, h1, h2, h3, h4, h5, h6⟩ := h
  exact ⟨O, OM, o, OB, @PairS.nofr ⟨o⟩ _ _ _ _ _ _ _ _ _ _ h1 hf, @Store.nofr ⟨none⟩ _ _ _ _ _ _ h2 hf, h3, h4, h5, h6.step hf fun _ _ e => e.elim⟩
theorem do_quad (W w2 w : World) (lo ga gm gb n k : Nat) (ra rm rb : List Rw) (h : Quad W w2 w lo ga gm gb n ra rm rb) (hl : Lim k ra) (hm : Lim k rm) (hk : k ≤ 99999) (x : Opn) (hx : Part W x.data) (hs : x.data.2.2.length ≤ 500 ∧ x.name.length ≤ 500) :
    Calls Try.prog 14 #[.pointer (some ⟨ga, 0, none⟩), .pointer (some ⟨gm, 0, none⟩), .agg (opa x)] w fun e w' => (∃ z, e = .returned z) ∧ Quad W w2 w' lo ga gm gb n (dstep n ra x) (dstep n rm x) rb := by
  obtain ⟨O, OM, o, OB, h1, h2, h3, h4, h5, h6⟩ := h
  refine (@do_two ⟨o⟩ W w ga gm n k ra rm O OM h1 hl hm hk x hx hs).mono ?_
  rintro e w' ⟨b, rfl, hb, O', OM', o', hp, ht⟩
  have hnb : ∀ k, Byt w k → ¬ (O k ∨ OM k) := by
    obtain ⟨E, hE⟩ : ∃ E : Ex, PairS W w ga gm n ra rm O OM := ⟨⟨o⟩, h1⟩
    intro k hk e
    rcases e with e | e
    · exact hE.st.nb e hk
    · exact hE.rst.nb e hk
  refine ⟨⟨_, rfl⟩, O', OM', o', OB, hp, @Store.fr ⟨none⟩ _ _ _ _ _ _ _ h2 ht.fr (fun b hb e => e.elim (h3 b hb).1 (h3 b hb).2) hnb, fun b hb => ?_, h4, fun b hb => ?_, h6.step ht.fr fun i hi e => ?_⟩
  · have hlt := @Store.lt ⟨none⟩ _ _ _ _ _ h2 b hb
    refine ⟨fun e => ?_, fun e => ?_⟩
    · rcases ht.new b (.inl e) with (e | e) | e
      · exact (h3 b hb).1 e
      · exact (h3 b hb).2 e
      · omega
    · rcases ht.new b (.inr e) with (e | e) | e
      · exact (h3 b hb).1 e
      · exact (h3 b hb).2 e
      · omega
  · rcases ht.new b hb with e | e
    · exact h5 b e
    · exact .inr (Nat.le_trans h6.size e)
  · rcases h5 i e with h | h
    · exact h
    · omega
end Go.Proofs.Ytkdcacajacndmaa
