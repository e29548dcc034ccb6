/- The reader's message. Conditions: the eye's bytes are kept, lengths are short. -/
import Derived.Test.YtdpjmkgjjhcgeaaDoorReader
import Derived.Test.YtdpjmkgjjhcgeaaDoorOf18
import Derived.IntWalk
namespace Go.Proofs.YtdpjmkgjjhcgeaaDoor
open Go.RowKit

theorem voteInfo : (Tryd.prog.info? 48).map (fun i => (i.zero, i.size, i.bytes)) = some (some (.agg #[.int .i64 0, .int .u64 0, .string ByteArray.empty]), 3, 32) := by kernel_rfl
theorem mOf_read {l l6 l7 l8 l9 : List UInt8} {a1 a2 a3 a4 a5 : Int} {a6 n n0 : Nat} {a7 : Bs} {vs : List Vt} (A : Option Addr) (c : Nat) (q0 : l6 = (rN (rN (rN (rN (rN l).2).2).2).2).2) (q1 : a1 = sm (rN l).1) (q2 : a2 = sm (rN (rN l).2).1) (q3 : a3 = sm (rN (rN (rN l).2).2).1) (q4 : a4 = sm (rN (rN (rN (rN l).2).2).2).1) (q5 : a5 = sm (rN (rN (rN (rN (rN l).2).2).2).2).1)
    (q6 : a6 = (rN l6).1) (q7 : l7 = (rN l6).2) (q8 : a7 = (rT l7).1) (q9 : l8 = (rT l7).2) (qn : n0 = (rN l8).1) (qm : n = min n0 64) (qp : l9 = (rN l8).2) (hv : vs = (rep rVote n l9).1.map Vt.of) : MOf ⟨a1, a2, a3, a4, a5, a6, a7, A, c, vs⟩ (rMsg l).1 := by
  subst qm hv qp qn q9 q8 q7 q6 q5 q4 q3 q2 q1 q0
  unfold rMsg r1
  dsimp only
  refine ⟨rfl, rfl, rfl, rfl, rfl, rfl, rfl, ?_⟩
  dsimp only

/-- a message that is being read: its block gm, the reader's box, its row of the call's own. -/
structure RM (w wr : World) (N ge gm : Nat) (m : Mg) (ls : List UInt8) : Prop where
  re : RE wr N ge ls
  nw : N ≤ w.heap.size
  box : Bk wr w.heap.size 66 #[.pointer (some ⟨ge, 0, none⟩)]
  res : Bk wr (w.heap.size + 1) 26 zRef
  bm : Bk wr gm 26 (mga m)
  lt : w.heap.size + 1 < gm
  vo : wr.ownsRow w.heap.size 48 3 (.slice m.va m.votes.length m.vc) m.votes.length (vtsc m.votes)
  fr : Fr (fun k => k = ge) w wr
theorem RM.gl {w wr : World} {N ge gm : Nat} {m : Mg} {ls : List UInt8} (h : RM w wr N ge gm m ls) : ge < N ∧ N ≤ w.heap.size ∧ w.heap.size ≤ wr.heap.size := ⟨h.re.lt, h.nw, h.fr.size⟩
theorem RM.step {w wr w' : World} {N ge gm : Nat} {m : Mg} {ls ls' : List UInt8} (h : RM w wr N ge gm m ls) (hf : Fr (fun k => k = ge) wr w') (hre : RE w' N ge ls') : RM w w' N ge gm m ls' := by
  obtain ⟨g1, g2, g3⟩ := h.gl
  have hl := h.lt
  exact ⟨hre, h.nw, h.box.fr hf (by omega), h.res.fr hf (by omega), h.bm.fr hf (by omega), h.lt, own_fr h.vo hf (fun k hk e => by have := (own_blk h.vo hk).1; omega), h.fr.trans hf⟩
theorem RM.nofr {w wr w' : World} {N ge gm : Nat} {m : Mg} {ls : List UInt8} (h : RM w wr N ge gm m ls) (hf : Fr NoBlk wr w') : RM w w' N ge gm m ls :=
  h.step (hf.mono fun _ _ h => h.elim) (h.re.fr hf fun _ _ h => h)
/-- a store into the message's block ahead of its votes. -/
theorem RM.put {w wr : World} {N ge gm : Nat} {m u : Mg} {ls : List UInt8} (h : RM w wr N ge gm m ls) (i : Nat) (v : Value) (hu : (mga m).setIfInBounds i v = mga u) (h1 : u.va = m.va) (h2 : u.vc = m.vc) (h3 : u.votes = m.votes) : RM w (wr.setCell ⟨gm, i, none⟩ v) N ge gm u ls := by
  obtain ⟨g1, g2, g3⟩ := h.gl
  have hl := h.lt
  have hf : Fr (fun k => k = gm) wr (wr.setCell ⟨gm, i, none⟩ v) := (Fr.refl (fun k => k = gm) wr).setCell (p := ⟨gm, i, none⟩) (fun _ => rfl) v
  refine ⟨h.re.fr hf (fun k hk e => by omega), h.nw, h.box.fr hf (by omega), h.res.fr hf (by omega), hu ▸ h.bm.put i v, h.lt, ?_, h.fr.step hf (fun k hk e => by omega)⟩
  rw [h1, h2, h3]
  exact own_set h.vo h.bm (by decide)
theorem RM.grown {w wr w' : World} {N ge gm : Nat} {m : Mg} {ls : List UInt8} (h : RM w wr N ge gm m ls) (hg : wr.grownBy w' (Value.slice m.va m.votes.length m.vc).ownBlock) :
    Bk w' gm 26 (mga m) ∧ Bk w' w.heap.size 66 #[.pointer (some ⟨ge, 0, none⟩)] :=
  ⟨h.bm.fr (Fr.ofGrown hg) (fun e => own_apart h.vo h.bm (by decide) e.symm), h.box.fr (Fr.ofGrown hg) (fun e => own_apart h.vo h.box (by decide) e.symm)⟩
theorem RM.push {w wr w' : World} {N ge gm : Nat} {m : Mg} {ls : List UInt8} (h : RM w wr N ge gm m ls) (hg : wr.grownBy w' (Value.slice m.va m.votes.length m.vc).ownBlock) {A : Option Addr} {c : Nat} {x : Vt}
    (hm : w'.ownsRow w.heap.size 48 3 (.slice A (m.votes.length + 1) c) (m.votes.length + 1) (vtsc m.votes ++ vtc x)) :
    RM w (w'.setCell ⟨gm, 7, none⟩ (.slice A (m.votes.length + 1) c)) N ge gm { m with va := A, vc := c, votes := m.votes ++ [x] } ls := by
  obtain ⟨g1, g2, g3⟩ := h.gl
  have hl := h.lt
  have hfg := Fr.ofGrown hg
  have hf2 : Fr (fun k => k = gm) w' (w'.setCell ⟨gm, 7, none⟩ (.slice A (m.votes.length + 1) c)) := (Fr.refl (fun k => k = gm) w').setCell (p := ⟨gm, 7, none⟩) (fun _ => rfl) _
  have hmb : ∀ k, some k = (Value.slice m.va m.votes.length m.vc).ownBlock → w.heap.size ≤ k ∧ k < wr.heap.size := fun k hk => own_blk h.vo hk.symm
  obtain ⟨k2, k3⟩ := h.grown hg
  have hlen : (m.votes ++ [x]).length = m.votes.length + 1 := by simp
  have hcs : vtsc (m.votes ++ [x]) = vtsc m.votes ++ vtc x := by rw [vtsc_append]; simp [vtsc]
  refine ⟨(h.re.fr hfg (fun k hk e => by have := (hmb k e).1; omega)).fr hf2 (fun k hk e => by omega), h.nw, k3.fr hf2 (by omega), (h.res.fr hfg (fun e => own_apart h.vo h.res (by decide) e.symm)).fr hf2 (by omega), ?_, h.lt, ?_, ?_⟩
  · refine Bk.cast (k2.put 7 (.slice A (m.votes.length + 1) c)) ?_
    unfold mga
    simp only [List.setIfInBounds_toArray, List.set_cons_zero, List.set_cons_succ, hlen]
  · show World.ownsRow _ _ _ _ (.slice A (m.votes ++ [x]).length c) (m.votes ++ [x]).length (vtsc (m.votes ++ [x]))
    rw [hlen, hcs]
    exact own_set hm k2 (by decide)
  · exact (h.fr.grown hg (fun k hk hlt => absurd (hmb k hk.symm).1 (by omega))).step hf2 (fun k hk e => by omega)

structure RPost (w w' : World) (ge : Nat) (l : List UInt8) (m : Mg) : Prop where
  of_ : MOf m (rMsg l).1
  own : w'.ownsRow w.heap.size 48 3 (.slice m.va m.votes.length m.vc) m.votes.length (vtsc m.votes)
  fr : Fr (fun k => k = ge) w w'

set_option maxRecDepth 100000 in
set_option maxHeartbeats 16000000 in
theorem rmsg_any (w : World) (N ge : Nat) (l : List UInt8) (he : RE w N ge l) :
    Calls Tryd.prog 29 #[rv ge] w fun e w' => ∃ m, e = .returned (mgv m) ∧ RPost w w' ge l m := by
  obtain ⟨i0, hi, hz0, hz1, hz2⟩ := info_parts voteInfo
  obtain ⟨w0, hw0⟩ : ∃ w0, w0 = (w.alloc (.cells #[.pointer (some ⟨ge, 0, none⟩)] 66)).alloc (.cells zRef 26) := ⟨_, rfl⟩
  have HF : Hid (Fr (fun k => k = ge) w w0) := by
    show Fr _ _ _
    rw [hw0]
    exact ((Fr.refl _ _).alloc _).alloc _
  have HE : Hid (RE w0 N ge l) := by
    show RE _ _ _ _
    rw [hw0]
    exact he.fr (((Fr.refl NoBlk _).alloc _).alloc _) (fun _ _ h => h)
  have HB : Hid (Bk w0 w.heap.size 66 #[.pointer (some ⟨ge, 0, none⟩)]) := by
    show Bk _ _ _ _
    rw [hw0]
    exact (Bk.new w _ _).alloc _
  have HB2 : Hid (Bk w0 (w.heap.size + 1) 26 zRef) := by
    show Bk _ _ _ _
    rw [hw0]
    exact Bk.new' _ _ _ (by simp)
  have HSZ : Hid (w0.heap.size = w.heap.size + 2) := by
    show _ = _
    rw [hw0]; simp
  have HN : Hid (ge < N ∧ N ≤ w.heap.size) := ⟨he.lt, he.size⟩
  have KS := Lib.hid fun W L (h : RE W N ge L) => rsmall_any W N ge L h
  have KN := Lib.hid fun W L (h : RE W N ge L) => rnum_any W N ge L h
  have KT := Lib.hid fun W L (h : RE W N ge L) => rtext_any W N ge L h
  clear he
  unfold rv at KS KN KT ⊢
  unfold RTxt at KT
  unfold zRef at hw0
  go_enter Tryd.func29, Tryd.ntmps29
  go_upto_region 1 with fail
  rw [← hw0]
  clear hw0
  go_cut [3] from 4 to 14 (fun s3 wx => ∃ gm : Nat, s3 = .pointer (some ⟨gm, 0, none⟩) ∧ RM w wx N ge gm (⟨sm (rN l).1, sm (rN (rN l).2).1, sm (rN (rN (rN l).2).2).1, sm (rN (rN (rN (rN l).2).2).2).1, sm (rN (rN (rN (rN (rN l).2).2).2).2).1, 0, [], none, 0, []⟩ : Mg) (rN (rN (rN (rN (rN l).2).2).2).2).2)
  case first =>
    refine wp_region_held_drew (S := fun w' => w'.cell? ⟨w.heap.size, 0, none⟩ = some (.pointer (some ⟨ge, 0, none⟩))) (by kernel_rfl) ((HB.out.fr ((Fr.refl (fun k => k = ge) w0).drew) (by have := HN.out; omega)).cell 0) (fun hHeld => ?_)
    refine wpAnyH_take (i := 0) (oi := ⟨some 4, _, _, _, _, _⟩) (v := ?_) rfl (by kernel_rfl) (by kernel_rfl) (by kernel_rfl) (fun _ _ _ h => h) (Or.inl ⟨by rfl, ?_⟩) (by assumption) ?_
    rotate_left 1
    · (intro w hSw; (try dsimp only at hSw); go_simp) <;> (with_reducible rfl)
    try simp only [Act.put, List.setIfInBounds_toArray, List.set_cons_zero, List.set_cons_succ]
    refine wpAnyH_take (i := 2) (oi := ⟨some 6, _, _, _, _, _⟩) (v := ?_) rfl (by kernel_rfl) (by kernel_rfl) (by kernel_rfl) (fun _ _ _ h => h) (Or.inl ⟨by rfl, ?_⟩) (by assumption) ?_
    rotate_left 1
    · (intro w hSw; (try dsimp only at hSw); go_simp) <;> (with_reducible rfl)
    try simp only [Act.put, List.setIfInBounds_toArray, List.set_cons_zero, List.set_cons_succ]
    refine wpAnyH_take (i := 4) (oi := ⟨some 8, _, _, _, _, _⟩) (v := ?_) rfl (by kernel_rfl) (by kernel_rfl) (by kernel_rfl) (fun _ _ _ h => h) (Or.inl ⟨by rfl, ?_⟩) (by assumption) ?_
    rotate_left 1
    · (intro w hSw; (try dsimp only at hSw); go_simp) <;> (with_reducible rfl)
    try simp only [Act.put, List.setIfInBounds_toArray, List.set_cons_zero, List.set_cons_succ]
    refine wpAnyH_take (i := 6) (oi := ⟨some 10, _, _, _, _, _⟩) (v := ?_) rfl (by kernel_rfl) (by kernel_rfl) (by kernel_rfl) (fun _ _ _ h => h) (Or.inl ⟨by rfl, ?_⟩) (by assumption) ?_
    rotate_left 1
    · (intro w hSw; (try dsimp only at hSw); go_simp) <;> (with_reducible rfl)
    try simp only [Act.put, List.setIfInBounds_toArray, List.set_cons_zero, List.set_cons_succ]
    refine wpAnyH_take (i := 8) (oi := ⟨some 12, _, _, _, _, _⟩) (v := ?_) rfl (by kernel_rfl) (by kernel_rfl) (by kernel_rfl) (fun _ _ _ h => h) (Or.inl ⟨by rfl, ?_⟩) (by assumption) ?_
    rotate_left 1
    · (intro w hSw; (try dsimp only at hSw); go_simp) <;> (with_reducible rfl)
    try simp only [Act.put, List.setIfInBounds_toArray, List.set_cons_zero, List.set_cons_succ]
    refine wpAnyH_ready (rs := [1, 11]) (by kernel_rfl) (by simp) ?_
    refine AllReadyH.cons (o := ⟨some 5, _, _, _, _, _⟩) rfl (fun K hK => ?_) (AllReadyH.cons (o := ⟨some 3, _, _, _, _, _⟩) rfl (fun K hK => ?_) AllReadyH.nil)
    · go_simp
      go_at_call 38
      refine (KS.out _ _ (HE.out.fr ((Fr.refl NoBlk w0).drew) (fun _ _ h => h))).mono ?_
      rintro e wa ⟨rfl, hre, hf⟩
      have HREwa := Lib.hid hre
      have HFwa : Hid (Fr (fun k => k = ge) w0 wa) := ((Fr.refl (fun k => k = ge) w0).drew).trans hf
      have HHwa := Lib.hid hf
      clear hre hf
      clear hHeld
      refine hK.out _ _ ?_ (fun hHeld => ?_)
      · exact (HB.out.fr (HFwa.out) (by have := HN.out; omega)).cell 0
      clear hK K
      try simp only [Act.put, List.setIfInBounds_toArray, List.set_cons_zero, List.set_cons_succ]
      refine wpAnyH_ready (rs := [3, 11]) (by kernel_rfl) (by simp) ?_
      refine AllReadyH.cons (o := ⟨some 7, _, _, _, _, _⟩) rfl (fun K hK => ?_) (AllReadyH.cons (o := ⟨some 3, _, _, _, _, _⟩) rfl (fun K hK => ?_) AllReadyH.nil)
      · go_simp
        go_at_call 38
        refine (KS.out _ _ (HREwa.out)).mono ?_
        rintro e wb ⟨rfl, hre, hf⟩
        have HREwb := Lib.hid hre
        have HFwb : Hid (Fr (fun k => k = ge) w0 wb) := (HFwa.out).trans hf
        have HHwb := Lib.hid hf
        clear hre hf
        clear hHeld
        refine hK.out _ _ ?_ (fun hHeld => ?_)
        · exact (HB.out.fr (HFwb.out) (by have := HN.out; omega)).cell 0
        clear hK K
        try simp only [Act.put, List.setIfInBounds_toArray, List.set_cons_zero, List.set_cons_succ]
        refine wpAnyH_ready (rs := [5, 11]) (by kernel_rfl) (by simp) ?_
        refine AllReadyH.cons (o := ⟨some 9, _, _, _, _, _⟩) rfl (fun K hK => ?_) (AllReadyH.cons (o := ⟨some 3, _, _, _, _, _⟩) rfl (fun K hK => ?_) AllReadyH.nil)
        · go_simp
          go_at_call 38
          refine (KS.out _ _ (HREwb.out)).mono ?_
          rintro e wd ⟨rfl, hre, hf⟩
          have HREwd := Lib.hid hre
          have HFwd : Hid (Fr (fun k => k = ge) w0 wd) := (HFwb.out).trans hf
          have HHwd := Lib.hid hf
          clear hre hf
          clear hHeld
          refine hK.out _ _ ?_ (fun hHeld => ?_)
          · exact (HB.out.fr (HFwd.out) (by have := HN.out; omega)).cell 0
          clear hK K
          try simp only [Act.put, List.setIfInBounds_toArray, List.set_cons_zero, List.set_cons_succ]
          refine wpAnyH_ready (rs := [7, 11]) (by kernel_rfl) (by simp) ?_
          refine AllReadyH.cons (o := ⟨some 11, _, _, _, _, _⟩) rfl (fun K hK => ?_) (AllReadyH.cons (o := ⟨some 3, _, _, _, _, _⟩) rfl (fun K hK => ?_) AllReadyH.nil)
          · go_simp
            go_at_call 38
            refine (KS.out _ _ (HREwd.out)).mono ?_
            rintro e we ⟨rfl, hre, hf⟩
            have HREwe := Lib.hid hre
            have HFwe : Hid (Fr (fun k => k = ge) w0 we) := (HFwd.out).trans hf
            have HHwe := Lib.hid hf
            clear hre hf
            clear hHeld
            refine hK.out _ _ ?_ (fun hHeld => ?_)
            · exact (HB.out.fr (HFwe.out) (by have := HN.out; omega)).cell 0
            clear hK K
            try simp only [Act.put, List.setIfInBounds_toArray, List.set_cons_zero, List.set_cons_succ]
            refine wpAnyH_ready (rs := [9, 11]) (by kernel_rfl) (by simp) ?_
            refine AllReadyH.cons (o := ⟨some 13, _, _, _, _, _⟩) rfl (fun K hK => ?_) (AllReadyH.cons (o := ⟨some 3, _, _, _, _, _⟩) rfl (fun K hK => ?_) AllReadyH.nil)
            · go_simp
              go_at_call 38
              refine (KS.out _ _ (HREwe.out)).mono ?_
              rintro e wf ⟨rfl, hre, hf⟩
              have HREwf := Lib.hid hre
              have HFwf : Hid (Fr (fun k => k = ge) w0 wf) := (HFwe.out).trans hf
              have HHwf := Lib.hid hf
              clear hre hf
              clear hHeld
              refine hK.out _ _ ?_ (fun hHeld => ?_)
              · exact (HB.out.fr (HFwf.out) (by have := HN.out; omega)).cell 0
              clear hK K
              try simp only [Act.put, List.setIfInBounds_toArray, List.set_cons_zero, List.set_cons_succ]
              refine wpAnyH_take (i := 10) (oi := ⟨some 14, _, _, _, _, _⟩) (v := ?_) rfl (by kernel_rfl) (by kernel_rfl) (by kernel_rfl) (fun _ _ _ h => h) (Or.inl ⟨by rfl, ?_⟩) (by assumption) ?_
              rotate_left 1
              · (intro w hSw; (try dsimp only at hSw); go_simp) <;> (with_reducible rfl)
              try simp only [Act.put, List.setIfInBounds_toArray, List.set_cons_zero, List.set_cons_succ]
              refine wpAnyH_ready (rs := [11]) (by kernel_rfl) (by simp) ?_
              refine AllReadyH.cons (o := ⟨some 3, _, _, _, _, _⟩) rfl (fun K hK => ?_) AllReadyH.nil
              go_simp
              clear hHeld
              refine hK.out _ _ ?_ (fun hHeld => ?_)
              · exact (HB.out.fr ((HFwf.out).alloc _) (by have := HN.out; omega)).cell 0
              clear hK K
              try simp only [Act.put, List.setIfInBounds_toArray, List.set_cons_zero, List.set_cons_succ]
              obtain ⟨gm, hgm⟩ : ∃ gm, gm = wf.heap.size := ⟨_, rfl⟩
              have hbt : Bk (wf.alloc (.cells #[.int .i64 0, .int .i64 0, .int .i64 0, .int .i64 0, .int .i64 0, .int .u64 0, .string { data := #[] }, .slice none 0 0] 26)) gm 26 #[.int .i64 0, .int .i64 0, .int .i64 0, .int .i64 0, .int .i64 0, .int .u64 0, .string { data := #[] }, .slice none 0 0] := by rw [hgm]; exact Bk.new wf _ _
              have q0 : (wf.alloc (.cells #[.int .i64 0, .int .i64 0, .int .i64 0, .int .i64 0, .int .i64 0, .int .u64 0, .string { data := #[] }, .slice none 0 0] 26)).cell? ⟨gm, 0, none⟩ = some (.int .i64 0) := hbt.cell 0
              have g0 := hbt.free 0
              have q1 : (wf.alloc (.cells #[.int .i64 0, .int .i64 0, .int .i64 0, .int .i64 0, .int .i64 0, .int .u64 0, .string { data := #[] }, .slice none 0 0] 26)).cell? ⟨gm, 1, none⟩ = some (.int .i64 0) := hbt.cell 1
              have g1 := hbt.free 1
              have q2 : (wf.alloc (.cells #[.int .i64 0, .int .i64 0, .int .i64 0, .int .i64 0, .int .i64 0, .int .u64 0, .string { data := #[] }, .slice none 0 0] 26)).cell? ⟨gm, 2, none⟩ = some (.int .i64 0) := hbt.cell 2
              have g2 := hbt.free 2
              have q3 : (wf.alloc (.cells #[.int .i64 0, .int .i64 0, .int .i64 0, .int .i64 0, .int .i64 0, .int .u64 0, .string { data := #[] }, .slice none 0 0] 26)).cell? ⟨gm, 3, none⟩ = some (.int .i64 0) := hbt.cell 3
              have g3 := hbt.free 3
              have q4 : (wf.alloc (.cells #[.int .i64 0, .int .i64 0, .int .i64 0, .int .i64 0, .int .i64 0, .int .u64 0, .string { data := #[] }, .slice none 0 0] 26)).cell? ⟨gm, 4, none⟩ = some (.int .i64 0) := hbt.cell 4
              have g4 := hbt.free 4
              have q5 : (wf.alloc (.cells #[.int .i64 0, .int .i64 0, .int .i64 0, .int .i64 0, .int .i64 0, .int .u64 0, .string { data := #[] }, .slice none 0 0] 26)).cell? ⟨gm, 5, none⟩ = some (.int .u64 0) := hbt.cell 5
              have g5 := hbt.free 5
              have q6 : (wf.alloc (.cells #[.int .i64 0, .int .i64 0, .int .i64 0, .int .i64 0, .int .i64 0, .int .u64 0, .string { data := #[] }, .slice none 0 0] 26)).cell? ⟨gm, 6, none⟩ = some (.string { data := #[] }) := hbt.cell 6
              have g6 := hbt.free 6
              have q7 : (wf.alloc (.cells #[.int .i64 0, .int .i64 0, .int .i64 0, .int .i64 0, .int .i64 0, .int .u64 0, .string { data := #[] }, .slice none 0 0] 26)).cell? ⟨gm, 7, none⟩ = some (.slice none 0 0) := hbt.cell 7
              have g7 := hbt.free 7
              have HGL : Hid (w.heap.size + 1 < gm) := by
                show _ < _
                rw [hgm]
                have := HFwf.out.size; have := HSZ.out; omega
              have hry : RE (wf.alloc (.cells #[.int .i64 0, .int .i64 0, .int .i64 0, .int .i64 0, .int .i64 0, .int .u64 0, .string { data := #[] }, .slice none 0 0] 26)) N ge (rN (rN (rN (rN (rN l).2).2).2).2).2 := (HREwf.out).fr ((Fr.refl NoBlk wf).alloc _) (fun _ _ h => h)
              have hfy : Fr (fun k => k = ge) w0 (wf.alloc (.cells #[.int .i64 0, .int .i64 0, .int .i64 0, .int .i64 0, .int .i64 0, .int .u64 0, .string { data := #[] }, .slice none 0 0] 26)) := (HFwf.out).alloc _
              obtain ⟨wz, hwz⟩ : ∃ wz, wz = (((((((((wf.alloc (.cells #[.int .i64 0, .int .i64 0, .int .i64 0, .int .i64 0, .int .i64 0, .int .u64 0, .string { data := #[] }, .slice none 0 0] 26)).setCell ⟨gm, 0, none⟩ (.int .i64 (sm (rN l).1))).setCell ⟨gm, 1, none⟩ (.int .i64 (sm (rN (rN l).2).1))).setCell ⟨gm, 2, none⟩ (.int .i64 (sm (rN (rN (rN l).2).2).1))).setCell ⟨gm, 3, none⟩ (.int .i64 (sm (rN (rN (rN (rN l).2).2).2).1))).setCell ⟨gm, 4, none⟩ (.int .i64 (sm (rN (rN (rN (rN (rN l).2).2).2).2).1))).setCell ⟨gm, 5, none⟩ (.int .u64 0)).setCell ⟨gm, 6, none⟩ (.string { data := #[] })).setCell ⟨gm, 7, none⟩ (.slice none 0 0)) := ⟨_, rfl⟩
              have hfz : Fr (fun k => k = gm) (wf.alloc (.cells #[.int .i64 0, .int .i64 0, .int .i64 0, .int .i64 0, .int .i64 0, .int .u64 0, .string { data := #[] }, .slice none 0 0] 26)) wz := by
                rw [hwz]
                exact (((((((((Fr.refl (fun k => k = gm) (wf.alloc (.cells #[.int .i64 0, .int .i64 0, .int .i64 0, .int .i64 0, .int .i64 0, .int .u64 0, .string { data := #[] }, .slice none 0 0] 26))).setCell (p := ⟨gm, 0, none⟩) (fun _ => rfl) _).setCell (p := ⟨gm, 1, none⟩) (fun _ => rfl) _).setCell (p := ⟨gm, 2, none⟩) (fun _ => rfl) _).setCell (p := ⟨gm, 3, none⟩) (fun _ => rfl) _).setCell (p := ⟨gm, 4, none⟩) (fun _ => rfl) _).setCell (p := ⟨gm, 5, none⟩) (fun _ => rfl) _).setCell (p := ⟨gm, 6, none⟩) (fun _ => rfl) _).setCell (p := ⟨gm, 7, none⟩) (fun _ => rfl) _)
              have hbz : Bk wz gm 26 (mga (⟨sm (rN l).1, sm (rN (rN l).2).1, sm (rN (rN (rN l).2).2).1, sm (rN (rN (rN (rN l).2).2).2).1, sm (rN (rN (rN (rN (rN l).2).2).2).2).1, 0, [], none, 0, []⟩ : Mg)) := by
                rw [hwz]
                refine Bk.cast ((((((((hbt.put 0 (.int .i64 (sm (rN l).1))).put 1 (.int .i64 (sm (rN (rN l).2).1))).put 2 (.int .i64 (sm (rN (rN (rN l).2).2).1))).put 3 (.int .i64 (sm (rN (rN (rN (rN l).2).2).2).1))).put 4 (.int .i64 (sm (rN (rN (rN (rN (rN l).2).2).2).2).1))).put 5 (.int .u64 0)).put 6 (.string { data := #[] })).put 7 (.slice none 0 0)) ?_
                unfold mga bstr
                simp only [List.setIfInBounds_toArray, List.set_cons_zero, List.set_cons_succ, List.length_nil]
                try rfl
              have HXZ : Hid (RM w wz N ge gm (⟨sm (rN l).1, sm (rN (rN l).2).1, sm (rN (rN (rN l).2).2).1, sm (rN (rN (rN (rN l).2).2).2).1, sm (rN (rN (rN (rN (rN l).2).2).2).2).1, 0, [], none, 0, []⟩ : Mg) (rN (rN (rN (rN (rN l).2).2).2).2).2) :=
                have g1 := HN.out
                have g2 := HGL.out
                ⟨hry.fr hfz (fun k hk e => by omega), g1.2, (HB.out.fr hfy (by omega)).fr hfz (by omega), (HB2.out.fr hfy (by omega)).fr hfz (by omega), hbz, g2, World.ownsRow_nil _ _ _ _, (HF.out.trans hfy).step hfz (fun k hk e => by omega)⟩
              have HWZ := Lib.hid hwz
              clear hbt hry hfy hfz hbz hwz
              rw [← hgm]
              clear hgm
              refine wpAnyH_ready (rs := [12]) (by kernel_rfl) (by simp) ?_
              refine AllReadyH.cons (o := ⟨none, _, _, _, _, _⟩) rfl (fun K hK => ?_) AllReadyH.nil
              go_simp
              rw [← HWZ.out]
              clear hHeld
              refine hK.out _ _ ?_ (fun hHeld => ?_)
              · exact HXZ.out.box.cell 0
              clear hK K
              try simp only [Act.put, List.setIfInBounds_toArray, List.set_cons_zero, List.set_cons_succ]
              refine wpAnyH_done (by kernel_rfl) ?_ _
              clear HWZ hHeld
              go_wp2_with fail
              go_meet
              exact ⟨gm, rfl, HXZ.out⟩
            · go_simp
              clear hHeld
              refine hK.out _ _ ?_ (fun hHeld => ?_)
              · exact (HB.out.fr ((HFwe.out).alloc _) (by have := HN.out; omega)).cell 0
              clear hK K
              try simp only [Act.put, List.setIfInBounds_toArray, List.set_cons_zero, List.set_cons_succ]
              refine wpAnyH_ready (rs := [9]) (by kernel_rfl) (by simp) ?_
              refine AllReadyH.cons (o := ⟨some 13, _, _, _, _, _⟩) rfl (fun K hK => ?_) AllReadyH.nil
              go_simp
              go_at_call 38
              refine (KS.out _ _ ((HREwe.out).fr ((Fr.refl NoBlk we).alloc _) (fun _ _ h => h))).mono ?_
              rintro e wf ⟨rfl, hre, hf⟩
              have HREwf := Lib.hid hre
              have HFwf : Hid (Fr (fun k => k = ge) w0 wf) := ((HFwe.out).alloc _).trans hf
              have HHwf := Lib.hid hf
              clear hre hf
              clear hHeld
              refine hK.out _ _ ?_ (fun hHeld => ?_)
              · exact (HB.out.fr (HFwf.out) (by have := HN.out; omega)).cell 0
              clear hK K
              try simp only [Act.put, List.setIfInBounds_toArray, List.set_cons_zero, List.set_cons_succ]
              refine wpAnyH_take (i := 10) (oi := ⟨some 14, _, _, _, _, _⟩) (v := ?_) rfl (by kernel_rfl) (by kernel_rfl) (by kernel_rfl) (fun _ _ _ h => h) (Or.inl ⟨by rfl, ?_⟩) (by assumption) ?_
              rotate_left 1
              · (intro w hSw; (try dsimp only at hSw); go_simp) <;> (with_reducible rfl)
              try simp only [Act.put, List.setIfInBounds_toArray, List.set_cons_zero, List.set_cons_succ]
              obtain ⟨gm, hgm⟩ : ∃ gm, gm = we.heap.size := ⟨_, rfl⟩
              have hbt : Bk (wf) gm 26 #[.int .i64 0, .int .i64 0, .int .i64 0, .int .i64 0, .int .i64 0, .int .u64 0, .string { data := #[] }, .slice none 0 0] := by rw [hgm]; exact ((Bk.new (we) 26 _).fr HHwf.out (by have := HN.out; have := HSZ.out; have := HFwe.out.size; show we.heap.size ≠ ge; omega))
              have q0 : (wf).cell? ⟨gm, 0, none⟩ = some (.int .i64 0) := hbt.cell 0
              have g0 := hbt.free 0
              have q1 : (wf).cell? ⟨gm, 1, none⟩ = some (.int .i64 0) := hbt.cell 1
              have g1 := hbt.free 1
              have q2 : (wf).cell? ⟨gm, 2, none⟩ = some (.int .i64 0) := hbt.cell 2
              have g2 := hbt.free 2
              have q3 : (wf).cell? ⟨gm, 3, none⟩ = some (.int .i64 0) := hbt.cell 3
              have g3 := hbt.free 3
              have q4 : (wf).cell? ⟨gm, 4, none⟩ = some (.int .i64 0) := hbt.cell 4
              have g4 := hbt.free 4
              have q5 : (wf).cell? ⟨gm, 5, none⟩ = some (.int .u64 0) := hbt.cell 5
              have g5 := hbt.free 5
              have q6 : (wf).cell? ⟨gm, 6, none⟩ = some (.string { data := #[] }) := hbt.cell 6
              have g6 := hbt.free 6
              have q7 : (wf).cell? ⟨gm, 7, none⟩ = some (.slice none 0 0) := hbt.cell 7
              have g7 := hbt.free 7
              have HGL : Hid (w.heap.size + 1 < gm) := by
                show _ < _
                rw [hgm]
                have := HFwe.out.size; have := HSZ.out; omega
              have hry : RE (wf) N ge (rN (rN (rN (rN (rN l).2).2).2).2).2 := HREwf.out
              have hfy : Fr (fun k => k = ge) w0 (wf) := HFwf.out
              obtain ⟨wz, hwz⟩ : ∃ wz, wz = (((((((((wf).setCell ⟨gm, 0, none⟩ (.int .i64 (sm (rN l).1))).setCell ⟨gm, 1, none⟩ (.int .i64 (sm (rN (rN l).2).1))).setCell ⟨gm, 2, none⟩ (.int .i64 (sm (rN (rN (rN l).2).2).1))).setCell ⟨gm, 3, none⟩ (.int .i64 (sm (rN (rN (rN (rN l).2).2).2).1))).setCell ⟨gm, 4, none⟩ (.int .i64 (sm (rN (rN (rN (rN (rN l).2).2).2).2).1))).setCell ⟨gm, 5, none⟩ (.int .u64 0)).setCell ⟨gm, 6, none⟩ (.string { data := #[] })).setCell ⟨gm, 7, none⟩ (.slice none 0 0)) := ⟨_, rfl⟩
              have hfz : Fr (fun k => k = gm) (wf) wz := by
                rw [hwz]
                exact (((((((((Fr.refl (fun k => k = gm) (wf)).setCell (p := ⟨gm, 0, none⟩) (fun _ => rfl) _).setCell (p := ⟨gm, 1, none⟩) (fun _ => rfl) _).setCell (p := ⟨gm, 2, none⟩) (fun _ => rfl) _).setCell (p := ⟨gm, 3, none⟩) (fun _ => rfl) _).setCell (p := ⟨gm, 4, none⟩) (fun _ => rfl) _).setCell (p := ⟨gm, 5, none⟩) (fun _ => rfl) _).setCell (p := ⟨gm, 6, none⟩) (fun _ => rfl) _).setCell (p := ⟨gm, 7, none⟩) (fun _ => rfl) _)
              have hbz : Bk wz gm 26 (mga (⟨sm (rN l).1, sm (rN (rN l).2).1, sm (rN (rN (rN l).2).2).1, sm (rN (rN (rN (rN l).2).2).2).1, sm (rN (rN (rN (rN (rN l).2).2).2).2).1, 0, [], none, 0, []⟩ : Mg)) := by
                rw [hwz]
                refine Bk.cast ((((((((hbt.put 0 (.int .i64 (sm (rN l).1))).put 1 (.int .i64 (sm (rN (rN l).2).1))).put 2 (.int .i64 (sm (rN (rN (rN l).2).2).1))).put 3 (.int .i64 (sm (rN (rN (rN (rN l).2).2).2).1))).put 4 (.int .i64 (sm (rN (rN (rN (rN (rN l).2).2).2).2).1))).put 5 (.int .u64 0)).put 6 (.string { data := #[] })).put 7 (.slice none 0 0)) ?_
                unfold mga bstr
                simp only [List.setIfInBounds_toArray, List.set_cons_zero, List.set_cons_succ, List.length_nil]
                try rfl
              have HXZ : Hid (RM w wz N ge gm (⟨sm (rN l).1, sm (rN (rN l).2).1, sm (rN (rN (rN l).2).2).1, sm (rN (rN (rN (rN l).2).2).2).1, sm (rN (rN (rN (rN (rN l).2).2).2).2).1, 0, [], none, 0, []⟩ : Mg) (rN (rN (rN (rN (rN l).2).2).2).2).2) :=
                have g1 := HN.out
                have g2 := HGL.out
                ⟨hry.fr hfz (fun k hk e => by omega), g1.2, (HB.out.fr hfy (by omega)).fr hfz (by omega), (HB2.out.fr hfy (by omega)).fr hfz (by omega), hbz, g2, World.ownsRow_nil _ _ _ _, (HF.out.trans hfy).step hfz (fun k hk e => by omega)⟩
              have HWZ := Lib.hid hwz
              clear hbt hry hfy hfz hbz hwz
              rw [← hgm]
              clear hgm
              refine wpAnyH_ready (rs := [12]) (by kernel_rfl) (by simp) ?_
              refine AllReadyH.cons (o := ⟨none, _, _, _, _, _⟩) rfl (fun K hK => ?_) AllReadyH.nil
              go_simp
              rw [← HWZ.out]
              clear hHeld
              refine hK.out _ _ ?_ (fun hHeld => ?_)
              · exact HXZ.out.box.cell 0
              clear hK K
              try simp only [Act.put, List.setIfInBounds_toArray, List.set_cons_zero, List.set_cons_succ]
              refine wpAnyH_done (by kernel_rfl) ?_ _
              clear HWZ hHeld
              go_wp2_with fail
              go_meet
              exact ⟨gm, rfl, HXZ.out⟩
          · go_simp
            clear hHeld
            refine hK.out _ _ ?_ (fun hHeld => ?_)
            · exact (HB.out.fr ((HFwd.out).alloc _) (by have := HN.out; omega)).cell 0
            clear hK K
            try simp only [Act.put, List.setIfInBounds_toArray, List.set_cons_zero, List.set_cons_succ]
            refine wpAnyH_ready (rs := [7]) (by kernel_rfl) (by simp) ?_
            refine AllReadyH.cons (o := ⟨some 11, _, _, _, _, _⟩) rfl (fun K hK => ?_) AllReadyH.nil
            go_simp
            go_at_call 38
            refine (KS.out _ _ ((HREwd.out).fr ((Fr.refl NoBlk wd).alloc _) (fun _ _ h => h))).mono ?_
            rintro e we ⟨rfl, hre, hf⟩
            have HREwe := Lib.hid hre
            have HFwe : Hid (Fr (fun k => k = ge) w0 we) := ((HFwd.out).alloc _).trans hf
            have HHwe := Lib.hid hf
            clear hre hf
            clear hHeld
            refine hK.out _ _ ?_ (fun hHeld => ?_)
            · exact (HB.out.fr (HFwe.out) (by have := HN.out; omega)).cell 0
            clear hK K
            try simp only [Act.put, List.setIfInBounds_toArray, List.set_cons_zero, List.set_cons_succ]
            refine wpAnyH_ready (rs := [9]) (by kernel_rfl) (by simp) ?_
            refine AllReadyH.cons (o := ⟨some 13, _, _, _, _, _⟩) rfl (fun K hK => ?_) AllReadyH.nil
            go_simp
            go_at_call 38
            refine (KS.out _ _ (HREwe.out)).mono ?_
            rintro e wf ⟨rfl, hre, hf⟩
            have HREwf := Lib.hid hre
            have HFwf : Hid (Fr (fun k => k = ge) w0 wf) := (HFwe.out).trans hf
            have HHwf := Lib.hid hf
            clear hre hf
            clear hHeld
            refine hK.out _ _ ?_ (fun hHeld => ?_)
            · exact (HB.out.fr (HFwf.out) (by have := HN.out; omega)).cell 0
            clear hK K
            try simp only [Act.put, List.setIfInBounds_toArray, List.set_cons_zero, List.set_cons_succ]
            refine wpAnyH_take (i := 10) (oi := ⟨some 14, _, _, _, _, _⟩) (v := ?_) rfl (by kernel_rfl) (by kernel_rfl) (by kernel_rfl) (fun _ _ _ h => h) (Or.inl ⟨by rfl, ?_⟩) (by assumption) ?_
            rotate_left 1
            · (intro w hSw; (try dsimp only at hSw); go_simp) <;> (with_reducible rfl)
            try simp only [Act.put, List.setIfInBounds_toArray, List.set_cons_zero, List.set_cons_succ]
            obtain ⟨gm, hgm⟩ : ∃ gm, gm = wd.heap.size := ⟨_, rfl⟩
            have hbt : Bk (wf) gm 26 #[.int .i64 0, .int .i64 0, .int .i64 0, .int .i64 0, .int .i64 0, .int .u64 0, .string { data := #[] }, .slice none 0 0] := by rw [hgm]; exact (((Bk.new (wd) 26 _).fr HHwe.out (by have := HN.out; have := HSZ.out; have := HFwd.out.size; show wd.heap.size ≠ ge; omega)).fr HHwf.out (by have := HN.out; have := HSZ.out; have := HFwd.out.size; show wd.heap.size ≠ ge; omega))
            have q0 : (wf).cell? ⟨gm, 0, none⟩ = some (.int .i64 0) := hbt.cell 0
            have g0 := hbt.free 0
            have q1 : (wf).cell? ⟨gm, 1, none⟩ = some (.int .i64 0) := hbt.cell 1
            have g1 := hbt.free 1
            have q2 : (wf).cell? ⟨gm, 2, none⟩ = some (.int .i64 0) := hbt.cell 2
            have g2 := hbt.free 2
            have q3 : (wf).cell? ⟨gm, 3, none⟩ = some (.int .i64 0) := hbt.cell 3
            have g3 := hbt.free 3
            have q4 : (wf).cell? ⟨gm, 4, none⟩ = some (.int .i64 0) := hbt.cell 4
            have g4 := hbt.free 4
            have q5 : (wf).cell? ⟨gm, 5, none⟩ = some (.int .u64 0) := hbt.cell 5
            have g5 := hbt.free 5
            have q6 : (wf).cell? ⟨gm, 6, none⟩ = some (.string { data := #[] }) := hbt.cell 6
            have g6 := hbt.free 6
            have q7 : (wf).cell? ⟨gm, 7, none⟩ = some (.slice none 0 0) := hbt.cell 7
            have g7 := hbt.free 7
            have HGL : Hid (w.heap.size + 1 < gm) := by
              show _ < _
              rw [hgm]
              have := HFwd.out.size; have := HSZ.out; omega
            have hry : RE (wf) N ge (rN (rN (rN (rN (rN l).2).2).2).2).2 := HREwf.out
            have hfy : Fr (fun k => k = ge) w0 (wf) := HFwf.out
            obtain ⟨wz, hwz⟩ : ∃ wz, wz = (((((((((wf).setCell ⟨gm, 0, none⟩ (.int .i64 (sm (rN l).1))).setCell ⟨gm, 1, none⟩ (.int .i64 (sm (rN (rN l).2).1))).setCell ⟨gm, 2, none⟩ (.int .i64 (sm (rN (rN (rN l).2).2).1))).setCell ⟨gm, 3, none⟩ (.int .i64 (sm (rN (rN (rN (rN l).2).2).2).1))).setCell ⟨gm, 4, none⟩ (.int .i64 (sm (rN (rN (rN (rN (rN l).2).2).2).2).1))).setCell ⟨gm, 5, none⟩ (.int .u64 0)).setCell ⟨gm, 6, none⟩ (.string { data := #[] })).setCell ⟨gm, 7, none⟩ (.slice none 0 0)) := ⟨_, rfl⟩
            have hfz : Fr (fun k => k = gm) (wf) wz := by
              rw [hwz]
              exact (((((((((Fr.refl (fun k => k = gm) (wf)).setCell (p := ⟨gm, 0, none⟩) (fun _ => rfl) _).setCell (p := ⟨gm, 1, none⟩) (fun _ => rfl) _).setCell (p := ⟨gm, 2, none⟩) (fun _ => rfl) _).setCell (p := ⟨gm, 3, none⟩) (fun _ => rfl) _).setCell (p := ⟨gm, 4, none⟩) (fun _ => rfl) _).setCell (p := ⟨gm, 5, none⟩) (fun _ => rfl) _).setCell (p := ⟨gm, 6, none⟩) (fun _ => rfl) _).setCell (p := ⟨gm, 7, none⟩) (fun _ => rfl) _)
            have hbz : Bk wz gm 26 (mga (⟨sm (rN l).1, sm (rN (rN l).2).1, sm (rN (rN (rN l).2).2).1, sm (rN (rN (rN (rN l).2).2).2).1, sm (rN (rN (rN (rN (rN l).2).2).2).2).1, 0, [], none, 0, []⟩ : Mg)) := by
              rw [hwz]
              refine Bk.cast ((((((((hbt.put 0 (.int .i64 (sm (rN l).1))).put 1 (.int .i64 (sm (rN (rN l).2).1))).put 2 (.int .i64 (sm (rN (rN (rN l).2).2).1))).put 3 (.int .i64 (sm (rN (rN (rN (rN l).2).2).2).1))).put 4 (.int .i64 (sm (rN (rN (rN (rN (rN l).2).2).2).2).1))).put 5 (.int .u64 0)).put 6 (.string { data := #[] })).put 7 (.slice none 0 0)) ?_
              unfold mga bstr
              simp only [List.setIfInBounds_toArray, List.set_cons_zero, List.set_cons_succ, List.length_nil]
              try rfl
            have HXZ : Hid (RM w wz N ge gm (⟨sm (rN l).1, sm (rN (rN l).2).1, sm (rN (rN (rN l).2).2).1, sm (rN (rN (rN (rN l).2).2).2).1, sm (rN (rN (rN (rN (rN l).2).2).2).2).1, 0, [], none, 0, []⟩ : Mg) (rN (rN (rN (rN (rN l).2).2).2).2).2) :=
              have g1 := HN.out
              have g2 := HGL.out
              ⟨hry.fr hfz (fun k hk e => by omega), g1.2, (HB.out.fr hfy (by omega)).fr hfz (by omega), (HB2.out.fr hfy (by omega)).fr hfz (by omega), hbz, g2, World.ownsRow_nil _ _ _ _, (HF.out.trans hfy).step hfz (fun k hk e => by omega)⟩
            have HWZ := Lib.hid hwz
            clear hbt hry hfy hfz hbz hwz
            rw [← hgm]
            clear hgm
            refine wpAnyH_ready (rs := [12]) (by kernel_rfl) (by simp) ?_
            refine AllReadyH.cons (o := ⟨none, _, _, _, _, _⟩) rfl (fun K hK => ?_) AllReadyH.nil
            go_simp
            rw [← HWZ.out]
            clear hHeld
            refine hK.out _ _ ?_ (fun hHeld => ?_)
            · exact HXZ.out.box.cell 0
            clear hK K
            try simp only [Act.put, List.setIfInBounds_toArray, List.set_cons_zero, List.set_cons_succ]
            refine wpAnyH_done (by kernel_rfl) ?_ _
            clear HWZ hHeld
            go_wp2_with fail
            go_meet
            exact ⟨gm, rfl, HXZ.out⟩
        · go_simp
          clear hHeld
          refine hK.out _ _ ?_ (fun hHeld => ?_)
          · exact (HB.out.fr ((HFwb.out).alloc _) (by have := HN.out; omega)).cell 0
          clear hK K
          try simp only [Act.put, List.setIfInBounds_toArray, List.set_cons_zero, List.set_cons_succ]
          refine wpAnyH_ready (rs := [5]) (by kernel_rfl) (by simp) ?_
          refine AllReadyH.cons (o := ⟨some 9, _, _, _, _, _⟩) rfl (fun K hK => ?_) AllReadyH.nil
          go_simp
          go_at_call 38
          refine (KS.out _ _ ((HREwb.out).fr ((Fr.refl NoBlk wb).alloc _) (fun _ _ h => h))).mono ?_
          rintro e wd ⟨rfl, hre, hf⟩
          have HREwd := Lib.hid hre
          have HFwd : Hid (Fr (fun k => k = ge) w0 wd) := ((HFwb.out).alloc _).trans hf
          have HHwd := Lib.hid hf
          clear hre hf
          clear hHeld
          refine hK.out _ _ ?_ (fun hHeld => ?_)
          · exact (HB.out.fr (HFwd.out) (by have := HN.out; omega)).cell 0
          clear hK K
          try simp only [Act.put, List.setIfInBounds_toArray, List.set_cons_zero, List.set_cons_succ]
          refine wpAnyH_ready (rs := [7]) (by kernel_rfl) (by simp) ?_
          refine AllReadyH.cons (o := ⟨some 11, _, _, _, _, _⟩) rfl (fun K hK => ?_) AllReadyH.nil
          go_simp
          go_at_call 38
          refine (KS.out _ _ (HREwd.out)).mono ?_
          rintro e we ⟨rfl, hre, hf⟩
          have HREwe := Lib.hid hre
          have HFwe : Hid (Fr (fun k => k = ge) w0 we) := (HFwd.out).trans hf
          have HHwe := Lib.hid hf
          clear hre hf
          clear hHeld
          refine hK.out _ _ ?_ (fun hHeld => ?_)
          · exact (HB.out.fr (HFwe.out) (by have := HN.out; omega)).cell 0
          clear hK K
          try simp only [Act.put, List.setIfInBounds_toArray, List.set_cons_zero, List.set_cons_succ]
          refine wpAnyH_ready (rs := [9]) (by kernel_rfl) (by simp) ?_
          refine AllReadyH.cons (o := ⟨some 13, _, _, _, _, _⟩) rfl (fun K hK => ?_) AllReadyH.nil
          go_simp
          go_at_call 38
          refine (KS.out _ _ (HREwe.out)).mono ?_
          rintro e wf ⟨rfl, hre, hf⟩
          have HREwf := Lib.hid hre
          have HFwf : Hid (Fr (fun k => k = ge) w0 wf) := (HFwe.out).trans hf
          have HHwf := Lib.hid hf
          clear hre hf
          clear hHeld
          refine hK.out _ _ ?_ (fun hHeld => ?_)
          · exact (HB.out.fr (HFwf.out) (by have := HN.out; omega)).cell 0
          clear hK K
          try simp only [Act.put, List.setIfInBounds_toArray, List.set_cons_zero, List.set_cons_succ]
          refine wpAnyH_take (i := 10) (oi := ⟨some 14, _, _, _, _, _⟩) (v := ?_) rfl (by kernel_rfl) (by kernel_rfl) (by kernel_rfl) (fun _ _ _ h => h) (Or.inl ⟨by rfl, ?_⟩) (by assumption) ?_
          rotate_left 1
          · (intro w hSw; (try dsimp only at hSw); go_simp) <;> (with_reducible rfl)
          try simp only [Act.put, List.setIfInBounds_toArray, List.set_cons_zero, List.set_cons_succ]
          obtain ⟨gm, hgm⟩ : ∃ gm, gm = wb.heap.size := ⟨_, rfl⟩
          have hbt : Bk (wf) gm 26 #[.int .i64 0, .int .i64 0, .int .i64 0, .int .i64 0, .int .i64 0, .int .u64 0, .string { data := #[] }, .slice none 0 0] := by rw [hgm]; exact ((((Bk.new (wb) 26 _).fr HHwd.out (by have := HN.out; have := HSZ.out; have := HFwb.out.size; show wb.heap.size ≠ ge; omega)).fr HHwe.out (by have := HN.out; have := HSZ.out; have := HFwb.out.size; show wb.heap.size ≠ ge; omega)).fr HHwf.out (by have := HN.out; have := HSZ.out; have := HFwb.out.size; show wb.heap.size ≠ ge; omega))
          have q0 : (wf).cell? ⟨gm, 0, none⟩ = some (.int .i64 0) := hbt.cell 0
          have g0 := hbt.free 0
          have q1 : (wf).cell? ⟨gm, 1, none⟩ = some (.int .i64 0) := hbt.cell 1
          have g1 := hbt.free 1
          have q2 : (wf).cell? ⟨gm, 2, none⟩ = some (.int .i64 0) := hbt.cell 2
          have g2 := hbt.free 2
          have q3 : (wf).cell? ⟨gm, 3, none⟩ = some (.int .i64 0) := hbt.cell 3
          have g3 := hbt.free 3
          have q4 : (wf).cell? ⟨gm, 4, none⟩ = some (.int .i64 0) := hbt.cell 4
          have g4 := hbt.free 4
          have q5 : (wf).cell? ⟨gm, 5, none⟩ = some (.int .u64 0) := hbt.cell 5
          have g5 := hbt.free 5
          have q6 : (wf).cell? ⟨gm, 6, none⟩ = some (.string { data := #[] }) := hbt.cell 6
          have g6 := hbt.free 6
          have q7 : (wf).cell? ⟨gm, 7, none⟩ = some (.slice none 0 0) := hbt.cell 7
          have g7 := hbt.free 7
          have HGL : Hid (w.heap.size + 1 < gm) := by
            show _ < _
            rw [hgm]
            have := HFwb.out.size; have := HSZ.out; omega
          have hry : RE (wf) N ge (rN (rN (rN (rN (rN l).2).2).2).2).2 := HREwf.out
          have hfy : Fr (fun k => k = ge) w0 (wf) := HFwf.out
          obtain ⟨wz, hwz⟩ : ∃ wz, wz = (((((((((wf).setCell ⟨gm, 0, none⟩ (.int .i64 (sm (rN l).1))).setCell ⟨gm, 1, none⟩ (.int .i64 (sm (rN (rN l).2).1))).setCell ⟨gm, 2, none⟩ (.int .i64 (sm (rN (rN (rN l).2).2).1))).setCell ⟨gm, 3, none⟩ (.int .i64 (sm (rN (rN (rN (rN l).2).2).2).1))).setCell ⟨gm, 4, none⟩ (.int .i64 (sm (rN (rN (rN (rN (rN l).2).2).2).2).1))).setCell ⟨gm, 5, none⟩ (.int .u64 0)).setCell ⟨gm, 6, none⟩ (.string { data := #[] })).setCell ⟨gm, 7, none⟩ (.slice none 0 0)) := ⟨_, rfl⟩
          have hfz : Fr (fun k => k = gm) (wf) wz := by
            rw [hwz]
            exact (((((((((Fr.refl (fun k => k = gm) (wf)).setCell (p := ⟨gm, 0, none⟩) (fun _ => rfl) _).setCell (p := ⟨gm, 1, none⟩) (fun _ => rfl) _).setCell (p := ⟨gm, 2, none⟩) (fun _ => rfl) _).setCell (p := ⟨gm, 3, none⟩) (fun _ => rfl) _).setCell (p := ⟨gm, 4, none⟩) (fun _ => rfl) _).setCell (p := ⟨gm, 5, none⟩) (fun _ => rfl) _).setCell (p := ⟨gm, 6, none⟩) (fun _ => rfl) _).setCell (p := ⟨gm, 7, none⟩) (fun _ => rfl) _)
          have hbz : Bk wz gm 26 (mga (⟨sm (rN l).1, sm (rN (rN l).2).1, sm (rN (rN (rN l).2).2).1, sm (rN (rN (rN (rN l).2).2).2).1, sm (rN (rN (rN (rN (rN l).2).2).2).2).1, 0, [], none, 0, []⟩ : Mg)) := by
            rw [hwz]
            refine Bk.cast ((((((((hbt.put 0 (.int .i64 (sm (rN l).1))).put 1 (.int .i64 (sm (rN (rN l).2).1))).put 2 (.int .i64 (sm (rN (rN (rN l).2).2).1))).put 3 (.int .i64 (sm (rN (rN (rN (rN l).2).2).2).1))).put 4 (.int .i64 (sm (rN (rN (rN (rN (rN l).2).2).2).2).1))).put 5 (.int .u64 0)).put 6 (.string { data := #[] })).put 7 (.slice none 0 0)) ?_
            unfold mga bstr
            simp only [List.setIfInBounds_toArray, List.set_cons_zero, List.set_cons_succ, List.length_nil]
            try rfl
          have HXZ : Hid (RM w wz N ge gm (⟨sm (rN l).1, sm (rN (rN l).2).1, sm (rN (rN (rN l).2).2).1, sm (rN (rN (rN (rN l).2).2).2).1, sm (rN (rN (rN (rN (rN l).2).2).2).2).1, 0, [], none, 0, []⟩ : Mg) (rN (rN (rN (rN (rN l).2).2).2).2).2) :=
            have g1 := HN.out
            have g2 := HGL.out
            ⟨hry.fr hfz (fun k hk e => by omega), g1.2, (HB.out.fr hfy (by omega)).fr hfz (by omega), (HB2.out.fr hfy (by omega)).fr hfz (by omega), hbz, g2, World.ownsRow_nil _ _ _ _, (HF.out.trans hfy).step hfz (fun k hk e => by omega)⟩
          have HWZ := Lib.hid hwz
          clear hbt hry hfy hfz hbz hwz
          rw [← hgm]
          clear hgm
          refine wpAnyH_ready (rs := [12]) (by kernel_rfl) (by simp) ?_
          refine AllReadyH.cons (o := ⟨none, _, _, _, _, _⟩) rfl (fun K hK => ?_) AllReadyH.nil
          go_simp
          rw [← HWZ.out]
          clear hHeld
          refine hK.out _ _ ?_ (fun hHeld => ?_)
          · exact HXZ.out.box.cell 0
          clear hK K
          try simp only [Act.put, List.setIfInBounds_toArray, List.set_cons_zero, List.set_cons_succ]
          refine wpAnyH_done (by kernel_rfl) ?_ _
          clear HWZ hHeld
          go_wp2_with fail
          go_meet
          exact ⟨gm, rfl, HXZ.out⟩
      · go_simp
        clear hHeld
        refine hK.out _ _ ?_ (fun hHeld => ?_)
        · exact (HB.out.fr ((HFwa.out).alloc _) (by have := HN.out; omega)).cell 0
        clear hK K
        try simp only [Act.put, List.setIfInBounds_toArray, List.set_cons_zero, List.set_cons_succ]
        refine wpAnyH_ready (rs := [3]) (by kernel_rfl) (by simp) ?_
        refine AllReadyH.cons (o := ⟨some 7, _, _, _, _, _⟩) rfl (fun K hK => ?_) AllReadyH.nil
        go_simp
        go_at_call 38
        refine (KS.out _ _ ((HREwa.out).fr ((Fr.refl NoBlk wa).alloc _) (fun _ _ h => h))).mono ?_
        rintro e wb ⟨rfl, hre, hf⟩
        have HREwb := Lib.hid hre
        have HFwb : Hid (Fr (fun k => k = ge) w0 wb) := ((HFwa.out).alloc _).trans hf
        have HHwb := Lib.hid hf
        clear hre hf
        clear hHeld
        refine hK.out _ _ ?_ (fun hHeld => ?_)
        · exact (HB.out.fr (HFwb.out) (by have := HN.out; omega)).cell 0
        clear hK K
        try simp only [Act.put, List.setIfInBounds_toArray, List.set_cons_zero, List.set_cons_succ]
        refine wpAnyH_ready (rs := [5]) (by kernel_rfl) (by simp) ?_
        refine AllReadyH.cons (o := ⟨some 9, _, _, _, _, _⟩) rfl (fun K hK => ?_) AllReadyH.nil
        go_simp
        go_at_call 38
        refine (KS.out _ _ (HREwb.out)).mono ?_
        rintro e wd ⟨rfl, hre, hf⟩
        have HREwd := Lib.hid hre
        have HFwd : Hid (Fr (fun k => k = ge) w0 wd) := (HFwb.out).trans hf
        have HHwd := Lib.hid hf
        clear hre hf
        clear hHeld
        refine hK.out _ _ ?_ (fun hHeld => ?_)
        · exact (HB.out.fr (HFwd.out) (by have := HN.out; omega)).cell 0
        clear hK K
        try simp only [Act.put, List.setIfInBounds_toArray, List.set_cons_zero, List.set_cons_succ]
        refine wpAnyH_ready (rs := [7]) (by kernel_rfl) (by simp) ?_
        refine AllReadyH.cons (o := ⟨some 11, _, _, _, _, _⟩) rfl (fun K hK => ?_) AllReadyH.nil
        go_simp
        go_at_call 38
        refine (KS.out _ _ (HREwd.out)).mono ?_
        rintro e we ⟨rfl, hre, hf⟩
        have HREwe := Lib.hid hre
        have HFwe : Hid (Fr (fun k => k = ge) w0 we) := (HFwd.out).trans hf
        have HHwe := Lib.hid hf
        clear hre hf
        clear hHeld
        refine hK.out _ _ ?_ (fun hHeld => ?_)
        · exact (HB.out.fr (HFwe.out) (by have := HN.out; omega)).cell 0
        clear hK K
        try simp only [Act.put, List.setIfInBounds_toArray, List.set_cons_zero, List.set_cons_succ]
        refine wpAnyH_ready (rs := [9]) (by kernel_rfl) (by simp) ?_
        refine AllReadyH.cons (o := ⟨some 13, _, _, _, _, _⟩) rfl (fun K hK => ?_) AllReadyH.nil
        go_simp
        go_at_call 38
        refine (KS.out _ _ (HREwe.out)).mono ?_
        rintro e wf ⟨rfl, hre, hf⟩
        have HREwf := Lib.hid hre
        have HFwf : Hid (Fr (fun k => k = ge) w0 wf) := (HFwe.out).trans hf
        have HHwf := Lib.hid hf
        clear hre hf
        clear hHeld
        refine hK.out _ _ ?_ (fun hHeld => ?_)
        · exact (HB.out.fr (HFwf.out) (by have := HN.out; omega)).cell 0
        clear hK K
        try simp only [Act.put, List.setIfInBounds_toArray, List.set_cons_zero, List.set_cons_succ]
        refine wpAnyH_take (i := 10) (oi := ⟨some 14, _, _, _, _, _⟩) (v := ?_) rfl (by kernel_rfl) (by kernel_rfl) (by kernel_rfl) (fun _ _ _ h => h) (Or.inl ⟨by rfl, ?_⟩) (by assumption) ?_
        rotate_left 1
        · (intro w hSw; (try dsimp only at hSw); go_simp) <;> (with_reducible rfl)
        try simp only [Act.put, List.setIfInBounds_toArray, List.set_cons_zero, List.set_cons_succ]
        obtain ⟨gm, hgm⟩ : ∃ gm, gm = wa.heap.size := ⟨_, rfl⟩
        have hbt : Bk (wf) gm 26 #[.int .i64 0, .int .i64 0, .int .i64 0, .int .i64 0, .int .i64 0, .int .u64 0, .string { data := #[] }, .slice none 0 0] := by rw [hgm]; exact (((((Bk.new (wa) 26 _).fr HHwb.out (by have := HN.out; have := HSZ.out; have := HFwa.out.size; show wa.heap.size ≠ ge; omega)).fr HHwd.out (by have := HN.out; have := HSZ.out; have := HFwa.out.size; show wa.heap.size ≠ ge; omega)).fr HHwe.out (by have := HN.out; have := HSZ.out; have := HFwa.out.size; show wa.heap.size ≠ ge; omega)).fr HHwf.out (by have := HN.out; have := HSZ.out; have := HFwa.out.size; show wa.heap.size ≠ ge; omega))
        have q0 : (wf).cell? ⟨gm, 0, none⟩ = some (.int .i64 0) := hbt.cell 0
        have g0 := hbt.free 0
        have q1 : (wf).cell? ⟨gm, 1, none⟩ = some (.int .i64 0) := hbt.cell 1
        have g1 := hbt.free 1
        have q2 : (wf).cell? ⟨gm, 2, none⟩ = some (.int .i64 0) := hbt.cell 2
        have g2 := hbt.free 2
        have q3 : (wf).cell? ⟨gm, 3, none⟩ = some (.int .i64 0) := hbt.cell 3
        have g3 := hbt.free 3
        have q4 : (wf).cell? ⟨gm, 4, none⟩ = some (.int .i64 0) := hbt.cell 4
        have g4 := hbt.free 4
        have q5 : (wf).cell? ⟨gm, 5, none⟩ = some (.int .u64 0) := hbt.cell 5
        have g5 := hbt.free 5
        have q6 : (wf).cell? ⟨gm, 6, none⟩ = some (.string { data := #[] }) := hbt.cell 6
        have g6 := hbt.free 6
        have q7 : (wf).cell? ⟨gm, 7, none⟩ = some (.slice none 0 0) := hbt.cell 7
        have g7 := hbt.free 7
        have HGL : Hid (w.heap.size + 1 < gm) := by
          show _ < _
          rw [hgm]
          have := HFwa.out.size; have := HSZ.out; omega
        have hry : RE (wf) N ge (rN (rN (rN (rN (rN l).2).2).2).2).2 := HREwf.out
        have hfy : Fr (fun k => k = ge) w0 (wf) := HFwf.out
        obtain ⟨wz, hwz⟩ : ∃ wz, wz = (((((((((wf).setCell ⟨gm, 0, none⟩ (.int .i64 (sm (rN l).1))).setCell ⟨gm, 1, none⟩ (.int .i64 (sm (rN (rN l).2).1))).setCell ⟨gm, 2, none⟩ (.int .i64 (sm (rN (rN (rN l).2).2).1))).setCell ⟨gm, 3, none⟩ (.int .i64 (sm (rN (rN (rN (rN l).2).2).2).1))).setCell ⟨gm, 4, none⟩ (.int .i64 (sm (rN (rN (rN (rN (rN l).2).2).2).2).1))).setCell ⟨gm, 5, none⟩ (.int .u64 0)).setCell ⟨gm, 6, none⟩ (.string { data := #[] })).setCell ⟨gm, 7, none⟩ (.slice none 0 0)) := ⟨_, rfl⟩
        have hfz : Fr (fun k => k = gm) (wf) wz := by
          rw [hwz]
          exact (((((((((Fr.refl (fun k => k = gm) (wf)).setCell (p := ⟨gm, 0, none⟩) (fun _ => rfl) _).setCell (p := ⟨gm, 1, none⟩) (fun _ => rfl) _).setCell (p := ⟨gm, 2, none⟩) (fun _ => rfl) _).setCell (p := ⟨gm, 3, none⟩) (fun _ => rfl) _).setCell (p := ⟨gm, 4, none⟩) (fun _ => rfl) _).setCell (p := ⟨gm, 5, none⟩) (fun _ => rfl) _).setCell (p := ⟨gm, 6, none⟩) (fun _ => rfl) _).setCell (p := ⟨gm, 7, none⟩) (fun _ => rfl) _)
        have hbz : Bk wz gm 26 (mga (⟨sm (rN l).1, sm (rN (rN l).2).1, sm (rN (rN (rN l).2).2).1, sm (rN (rN (rN (rN l).2).2).2).1, sm (rN (rN (rN (rN (rN l).2).2).2).2).1, 0, [], none, 0, []⟩ : Mg)) := by
          rw [hwz]
          refine Bk.cast ((((((((hbt.put 0 (.int .i64 (sm (rN l).1))).put 1 (.int .i64 (sm (rN (rN l).2).1))).put 2 (.int .i64 (sm (rN (rN (rN l).2).2).1))).put 3 (.int .i64 (sm (rN (rN (rN (rN l).2).2).2).1))).put 4 (.int .i64 (sm (rN (rN (rN (rN (rN l).2).2).2).2).1))).put 5 (.int .u64 0)).put 6 (.string { data := #[] })).put 7 (.slice none 0 0)) ?_
          unfold mga bstr
          simp only [List.setIfInBounds_toArray, List.set_cons_zero, List.set_cons_succ, List.length_nil]
          try rfl
        have HXZ : Hid (RM w wz N ge gm (⟨sm (rN l).1, sm (rN (rN l).2).1, sm (rN (rN (rN l).2).2).1, sm (rN (rN (rN (rN l).2).2).2).1, sm (rN (rN (rN (rN (rN l).2).2).2).2).1, 0, [], none, 0, []⟩ : Mg) (rN (rN (rN (rN (rN l).2).2).2).2).2) :=
          have g1 := HN.out
          have g2 := HGL.out
          ⟨hry.fr hfz (fun k hk e => by omega), g1.2, (HB.out.fr hfy (by omega)).fr hfz (by omega), (HB2.out.fr hfy (by omega)).fr hfz (by omega), hbz, g2, World.ownsRow_nil _ _ _ _, (HF.out.trans hfy).step hfz (fun k hk e => by omega)⟩
        have HWZ := Lib.hid hwz
        clear hbt hry hfy hfz hbz hwz
        rw [← hgm]
        clear hgm
        refine wpAnyH_ready (rs := [12]) (by kernel_rfl) (by simp) ?_
        refine AllReadyH.cons (o := ⟨none, _, _, _, _, _⟩) rfl (fun K hK => ?_) AllReadyH.nil
        go_simp
        rw [← HWZ.out]
        clear hHeld
        refine hK.out _ _ ?_ (fun hHeld => ?_)
        · exact HXZ.out.box.cell 0
        clear hK K
        try simp only [Act.put, List.setIfInBounds_toArray, List.set_cons_zero, List.set_cons_succ]
        refine wpAnyH_done (by kernel_rfl) ?_ _
        clear HWZ hHeld
        go_wp2_with fail
        go_meet
        exact ⟨gm, rfl, HXZ.out⟩
    · go_simp
      clear hHeld
      refine hK.out _ _ ?_ (fun hHeld => ?_)
      · exact (HB.out.fr (((Fr.refl (fun k => k = ge) w0).drew).alloc _) (by have := HN.out; omega)).cell 0
      clear hK K
      try simp only [Act.put, List.setIfInBounds_toArray, List.set_cons_zero, List.set_cons_succ]
      refine wpAnyH_ready (rs := [1]) (by kernel_rfl) (by simp) ?_
      refine AllReadyH.cons (o := ⟨some 5, _, _, _, _, _⟩) rfl (fun K hK => ?_) AllReadyH.nil
      go_simp
      go_at_call 38
      refine (KS.out _ _ ((HE.out.fr ((Fr.refl NoBlk w0).drew) (fun _ _ h => h)).fr ((Fr.refl NoBlk w0.drew).alloc _) (fun _ _ h => h))).mono ?_
      rintro e wa ⟨rfl, hre, hf⟩
      have HREwa := Lib.hid hre
      have HFwa : Hid (Fr (fun k => k = ge) w0 wa) := (((Fr.refl (fun k => k = ge) w0).drew).alloc _).trans hf
      have HHwa := Lib.hid hf
      clear hre hf
      clear hHeld
      refine hK.out _ _ ?_ (fun hHeld => ?_)
      · exact (HB.out.fr (HFwa.out) (by have := HN.out; omega)).cell 0
      clear hK K
      try simp only [Act.put, List.setIfInBounds_toArray, List.set_cons_zero, List.set_cons_succ]
      refine wpAnyH_ready (rs := [3]) (by kernel_rfl) (by simp) ?_
      refine AllReadyH.cons (o := ⟨some 7, _, _, _, _, _⟩) rfl (fun K hK => ?_) AllReadyH.nil
      go_simp
      go_at_call 38
      refine (KS.out _ _ (HREwa.out)).mono ?_
      rintro e wb ⟨rfl, hre, hf⟩
      have HREwb := Lib.hid hre
      have HFwb : Hid (Fr (fun k => k = ge) w0 wb) := (HFwa.out).trans hf
      have HHwb := Lib.hid hf
      clear hre hf
      clear hHeld
      refine hK.out _ _ ?_ (fun hHeld => ?_)
      · exact (HB.out.fr (HFwb.out) (by have := HN.out; omega)).cell 0
      clear hK K
      try simp only [Act.put, List.setIfInBounds_toArray, List.set_cons_zero, List.set_cons_succ]
      refine wpAnyH_ready (rs := [5]) (by kernel_rfl) (by simp) ?_
      refine AllReadyH.cons (o := ⟨some 9, _, _, _, _, _⟩) rfl (fun K hK => ?_) AllReadyH.nil
      go_simp
      go_at_call 38
      refine (KS.out _ _ (HREwb.out)).mono ?_
      rintro e wd ⟨rfl, hre, hf⟩
      have HREwd := Lib.hid hre
      have HFwd : Hid (Fr (fun k => k = ge) w0 wd) := (HFwb.out).trans hf
      have HHwd := Lib.hid hf
      clear hre hf
      clear hHeld
      refine hK.out _ _ ?_ (fun hHeld => ?_)
      · exact (HB.out.fr (HFwd.out) (by have := HN.out; omega)).cell 0
      clear hK K
      try simp only [Act.put, List.setIfInBounds_toArray, List.set_cons_zero, List.set_cons_succ]
      refine wpAnyH_ready (rs := [7]) (by kernel_rfl) (by simp) ?_
      refine AllReadyH.cons (o := ⟨some 11, _, _, _, _, _⟩) rfl (fun K hK => ?_) AllReadyH.nil
      go_simp
      go_at_call 38
      refine (KS.out _ _ (HREwd.out)).mono ?_
      rintro e we ⟨rfl, hre, hf⟩
      have HREwe := Lib.hid hre
      have HFwe : Hid (Fr (fun k => k = ge) w0 we) := (HFwd.out).trans hf
      have HHwe := Lib.hid hf
      clear hre hf
      clear hHeld
      refine hK.out _ _ ?_ (fun hHeld => ?_)
      · exact (HB.out.fr (HFwe.out) (by have := HN.out; omega)).cell 0
      clear hK K
      try simp only [Act.put, List.setIfInBounds_toArray, List.set_cons_zero, List.set_cons_succ]
      refine wpAnyH_ready (rs := [9]) (by kernel_rfl) (by simp) ?_
      refine AllReadyH.cons (o := ⟨some 13, _, _, _, _, _⟩) rfl (fun K hK => ?_) AllReadyH.nil
      go_simp
      go_at_call 38
      refine (KS.out _ _ (HREwe.out)).mono ?_
      rintro e wf ⟨rfl, hre, hf⟩
      have HREwf := Lib.hid hre
      have HFwf : Hid (Fr (fun k => k = ge) w0 wf) := (HFwe.out).trans hf
      have HHwf := Lib.hid hf
      clear hre hf
      clear hHeld
      refine hK.out _ _ ?_ (fun hHeld => ?_)
      · exact (HB.out.fr (HFwf.out) (by have := HN.out; omega)).cell 0
      clear hK K
      try simp only [Act.put, List.setIfInBounds_toArray, List.set_cons_zero, List.set_cons_succ]
      refine wpAnyH_take (i := 10) (oi := ⟨some 14, _, _, _, _, _⟩) (v := ?_) rfl (by kernel_rfl) (by kernel_rfl) (by kernel_rfl) (fun _ _ _ h => h) (Or.inl ⟨by rfl, ?_⟩) (by assumption) ?_
      rotate_left 1
      · (intro w hSw; (try dsimp only at hSw); go_simp) <;> (with_reducible rfl)
      try simp only [Act.put, List.setIfInBounds_toArray, List.set_cons_zero, List.set_cons_succ]
      obtain ⟨gm, hgm⟩ : ∃ gm, gm = w0.heap.size := ⟨_, rfl⟩
      have hbt : Bk (wf) gm 26 #[.int .i64 0, .int .i64 0, .int .i64 0, .int .i64 0, .int .i64 0, .int .u64 0, .string { data := #[] }, .slice none 0 0] := by rw [hgm]; exact ((((((Bk.new (w0.drew) 26 _).fr HHwa.out (by have := HN.out; have := HSZ.out; show w0.heap.size ≠ ge; omega)).fr HHwb.out (by have := HN.out; have := HSZ.out; show w0.heap.size ≠ ge; omega)).fr HHwd.out (by have := HN.out; have := HSZ.out; show w0.heap.size ≠ ge; omega)).fr HHwe.out (by have := HN.out; have := HSZ.out; show w0.heap.size ≠ ge; omega)).fr HHwf.out (by have := HN.out; have := HSZ.out; show w0.heap.size ≠ ge; omega))
      have q0 : (wf).cell? ⟨gm, 0, none⟩ = some (.int .i64 0) := hbt.cell 0
      have g0 := hbt.free 0
      have q1 : (wf).cell? ⟨gm, 1, none⟩ = some (.int .i64 0) := hbt.cell 1
      have g1 := hbt.free 1
      have q2 : (wf).cell? ⟨gm, 2, none⟩ = some (.int .i64 0) := hbt.cell 2
      have g2 := hbt.free 2
      have q3 : (wf).cell? ⟨gm, 3, none⟩ = some (.int .i64 0) := hbt.cell 3
      have g3 := hbt.free 3
      have q4 : (wf).cell? ⟨gm, 4, none⟩ = some (.int .i64 0) := hbt.cell 4
      have g4 := hbt.free 4
      have q5 : (wf).cell? ⟨gm, 5, none⟩ = some (.int .u64 0) := hbt.cell 5
      have g5 := hbt.free 5
      have q6 : (wf).cell? ⟨gm, 6, none⟩ = some (.string { data := #[] }) := hbt.cell 6
      have g6 := hbt.free 6
      have q7 : (wf).cell? ⟨gm, 7, none⟩ = some (.slice none 0 0) := hbt.cell 7
      have g7 := hbt.free 7
      have HGL : Hid (w.heap.size + 1 < gm) := by
        show _ < _
        rw [hgm]
        have := HSZ.out; omega
      have hry : RE (wf) N ge (rN (rN (rN (rN (rN l).2).2).2).2).2 := HREwf.out
      have hfy : Fr (fun k => k = ge) w0 (wf) := HFwf.out
      obtain ⟨wz, hwz⟩ : ∃ wz, wz = (((((((((wf).setCell ⟨gm, 0, none⟩ (.int .i64 (sm (rN l).1))).setCell ⟨gm, 1, none⟩ (.int .i64 (sm (rN (rN l).2).1))).setCell ⟨gm, 2, none⟩ (.int .i64 (sm (rN (rN (rN l).2).2).1))).setCell ⟨gm, 3, none⟩ (.int .i64 (sm (rN (rN (rN (rN l).2).2).2).1))).setCell ⟨gm, 4, none⟩ (.int .i64 (sm (rN (rN (rN (rN (rN l).2).2).2).2).1))).setCell ⟨gm, 5, none⟩ (.int .u64 0)).setCell ⟨gm, 6, none⟩ (.string { data := #[] })).setCell ⟨gm, 7, none⟩ (.slice none 0 0)) := ⟨_, rfl⟩
      have hfz : Fr (fun k => k = gm) (wf) wz := by
        rw [hwz]
        exact (((((((((Fr.refl (fun k => k = gm) (wf)).setCell (p := ⟨gm, 0, none⟩) (fun _ => rfl) _).setCell (p := ⟨gm, 1, none⟩) (fun _ => rfl) _).setCell (p := ⟨gm, 2, none⟩) (fun _ => rfl) _).setCell (p := ⟨gm, 3, none⟩) (fun _ => rfl) _).setCell (p := ⟨gm, 4, none⟩) (fun _ => rfl) _).setCell (p := ⟨gm, 5, none⟩) (fun _ => rfl) _).setCell (p := ⟨gm, 6, none⟩) (fun _ => rfl) _).setCell (p := ⟨gm, 7, none⟩) (fun _ => rfl) _)
      have hbz : Bk wz gm 26 (mga (⟨sm (rN l).1, sm (rN (rN l).2).1, sm (rN (rN (rN l).2).2).1, sm (rN (rN (rN (rN l).2).2).2).1, sm (rN (rN (rN (rN (rN l).2).2).2).2).1, 0, [], none, 0, []⟩ : Mg)) := by
        rw [hwz]
        refine Bk.cast ((((((((hbt.put 0 (.int .i64 (sm (rN l).1))).put 1 (.int .i64 (sm (rN (rN l).2).1))).put 2 (.int .i64 (sm (rN (rN (rN l).2).2).1))).put 3 (.int .i64 (sm (rN (rN (rN (rN l).2).2).2).1))).put 4 (.int .i64 (sm (rN (rN (rN (rN (rN l).2).2).2).2).1))).put 5 (.int .u64 0)).put 6 (.string { data := #[] })).put 7 (.slice none 0 0)) ?_
        unfold mga bstr
        simp only [List.setIfInBounds_toArray, List.set_cons_zero, List.set_cons_succ, List.length_nil]
        try rfl
      have HXZ : Hid (RM w wz N ge gm (⟨sm (rN l).1, sm (rN (rN l).2).1, sm (rN (rN (rN l).2).2).1, sm (rN (rN (rN (rN l).2).2).2).1, sm (rN (rN (rN (rN (rN l).2).2).2).2).1, 0, [], none, 0, []⟩ : Mg) (rN (rN (rN (rN (rN l).2).2).2).2).2) :=
        have g1 := HN.out
        have g2 := HGL.out
        ⟨hry.fr hfz (fun k hk e => by omega), g1.2, (HB.out.fr hfy (by omega)).fr hfz (by omega), (HB2.out.fr hfy (by omega)).fr hfz (by omega), hbz, g2, World.ownsRow_nil _ _ _ _, (HF.out.trans hfy).step hfz (fun k hk e => by omega)⟩
      have HWZ := Lib.hid hwz
      clear hbt hry hfy hfz hbz hwz
      rw [← hgm]
      clear hgm
      refine wpAnyH_ready (rs := [12]) (by kernel_rfl) (by simp) ?_
      refine AllReadyH.cons (o := ⟨none, _, _, _, _, _⟩) rfl (fun K hK => ?_) AllReadyH.nil
      go_simp
      rw [← HWZ.out]
      clear hHeld
      refine hK.out _ _ ?_ (fun hHeld => ?_)
      · exact HXZ.out.box.cell 0
      clear hK K
      try simp only [Act.put, List.setIfInBounds_toArray, List.set_cons_zero, List.set_cons_succ]
      refine wpAnyH_done (by kernel_rfl) ?_ _
      clear HWZ hHeld
      go_wp2_with fail
      go_meet
      exact ⟨gm, rfl, HXZ.out⟩
  case rest =>
    obtain ⟨gm, rfl, hx⟩ := hcut
    have HX := Lib.hid hx
    clear hx HB HB2 HE HF HSZ
    obtain ⟨l6, hl6⟩ : ∃ l6, l6 = (rN (rN (rN (rN (rN l).2).2).2).2).2 := ⟨_, rfl⟩
    obtain ⟨a5, ha5⟩ : ∃ a5, a5 = sm (rN (rN (rN (rN (rN l).2).2).2).2).1 := ⟨_, rfl⟩
    obtain ⟨a4, ha4⟩ : ∃ a4, a4 = sm (rN (rN (rN (rN l).2).2).2).1 := ⟨_, rfl⟩
    obtain ⟨a3, ha3⟩ : ∃ a3, a3 = sm (rN (rN (rN l).2).2).1 := ⟨_, rfl⟩
    obtain ⟨a2, ha2⟩ : ∃ a2, a2 = sm (rN (rN l).2).1 := ⟨_, rfl⟩
    obtain ⟨a1, ha1⟩ : ∃ a1, a1 = sm (rN l).1 := ⟨_, rfl⟩
    rw [← hl6, ← ha1, ← ha2, ← ha3, ← ha4, ← ha5] at HX
    have HA := Lib.hid (And.intro hl6 (And.intro ha1 (And.intro ha2 (And.intro ha3 (And.intro ha4 ha5)))))
    clear hl6 ha1 ha2 ha3 ha4 ha5
    have b0 : wc.cell? ⟨w.heap.size, 0, none⟩ = some (.pointer (some ⟨ge, 0, none⟩)) := HX.out.box.cell 0
    go_wp2_with fail
    refine (KN.out _ _ HX.out.re).mono ?_
    rintro e w1 ⟨rfl, hre1, hf1⟩
    have HX1 := Lib.hid (HX.out.step hf1 hre1)
    clear hre1 hf1 b0 HX
    obtain ⟨a6, ha6⟩ : ∃ a6, a6 = (rN l6).1 := ⟨_, rfl⟩
    obtain ⟨l7, hl7⟩ : ∃ l7, l7 = (rN l6).2 := ⟨_, rfl⟩
    rw [← hl7] at HX1
    rw [← ha6]
    have t1 : w1.cell? ⟨gm, 5, none⟩ = some (.int .u64 0) := HX1.out.bm.cell 5
    have e1 := HX1.out.bm.free 5
    have HX2 := Lib.hid (HX1.out.put (u := ⟨a1, a2, a3, a4, a5, a6, [], none, 0, []⟩) 5 (.int .u64 (a6 : Int)) (by unfold mga; simp only [List.setIfInBounds_toArray, List.set_cons_zero, List.set_cons_succ]) rfl rfl rfl)
    obtain ⟨w2, hw2⟩ : ∃ w2, w2 = w1.setCell ⟨gm, 5, none⟩ (.int .u64 (a6 : Int)) := ⟨_, rfl⟩
    rw [← hw2] at HX2
    have HA6 := Lib.hid (And.intro ha6 hl7)
    clear ha6 hl7
    go_upto_region 3 with fail
    rw [← hw2]
    clear hw2 t1 e1 HX1
    have b0 : w2.cell? ⟨w.heap.size, 0, none⟩ = some (.pointer (some ⟨ge, 0, none⟩)) := HX2.out.box.cell 0
    go_wp2_with fail
    refine (KT.out _ _ HX2.out.re).mono ?_
    rintro e w3 ⟨rfl, hre3, hf3⟩
    have HX3 := Lib.hid (HX2.out.step hf3 hre3)
    clear hre3 hf3 b0 HX2
    obtain ⟨a7, ha7⟩ : ∃ a7, a7 = (rT l7).1 := ⟨_, rfl⟩
    obtain ⟨l8, hl8⟩ : ∃ l8, l8 = (rT l7).2 := ⟨_, rfl⟩
    rw [← hl8] at HX3
    rw [← ha7]
    have t2 : w3.cell? ⟨gm, 6, none⟩ = some (.string { data := #[] }) := HX3.out.bm.cell 6
    have e2 := HX3.out.bm.free 6
    have HX4 := Lib.hid (HX3.out.put (u := ⟨a1, a2, a3, a4, a5, a6, a7, none, 0, []⟩) 6 (.string (bstr a7)) (by unfold mga; simp only [List.setIfInBounds_toArray, List.set_cons_zero, List.set_cons_succ]) rfl rfl rfl)
    obtain ⟨w4, hw4⟩ : ∃ w4, w4 = w3.setCell ⟨gm, 6, none⟩ (.string (bstr a7)) := ⟨_, rfl⟩
    rw [← hw4] at HX4
    have HA7 := Lib.hid (And.intro ha7 hl8)
    clear ha7 hl8
    go_upto_region 4 with fail
    rw [← hw4]
    clear hw4 t2 e2 HX3
    have b0 : w4.cell? ⟨w.heap.size, 0, none⟩ = some (.pointer (some ⟨ge, 0, none⟩)) := HX4.out.box.cell 0
    obtain ⟨n0, hn0⟩ : ∃ n0, n0 = (rN l8).1 := ⟨_, rfl⟩
    obtain ⟨n, hn⟩ : ∃ n, n = min n0 64 := ⟨_, rfl⟩
    have hmin : min (n0 : Int) 64 = (n : Int) := by rw [hn]; omega
    have hite : (if (n0 : Int) < 64 then (n0 : Int) else 64) = (n : Int) := by rw [hn]; split <;> omega
    have hite2 : (if (64 : Int) < (n0 : Int) then (64 : Int) else (n0 : Int)) = (n : Int) := by rw [hn]; split <;> omega
    have hite3 : (if (n0 : Int) ≤ 64 then (n0 : Int) else 64) = (n : Int) := by rw [hn]; split <;> omega
    have hn64 : n ≤ 64 := by rw [hn]; omega
    have HNN := Lib.hid (And.intro hn0 hn)
    have kc := KN.out _ _ HX4.out.re
    rw [← hn0] at kc
    have KC := Lib.hid kc
    clear hn kc
    go_wp2_with fail
    refine KC.out.mono ?_
    rintro e w5 ⟨rfl, hre5, hf5⟩
    have HX5 := Lib.hid (HX4.out.step hf5 hre5)
    clear hre5 hf5 b0 HX4 KC
    obtain ⟨l9, hl9⟩ : ∃ l9, l9 = (rN l8).2 := ⟨_, rfl⟩
    rw [← hl9] at HX5
    have HL9 := Lib.hid hl9
    clear hl9 hn0
    go_wp2_with fail
    go_loopw [24] (fun z wr => ∃ (k : Nat) (A : Option Addr) (c : Nat) (vs : List Vt), k ≤ n ∧ z = .int .u64 (k : Int) ∧ Hid (vs = (rep rVote k l9).1.map Vt.of) ∧ Hid (RM w wr N ge gm ⟨a1, a2, a3, a4, a5, a6, a7, A, c, vs⟩ (rep rVote k l9).2)) (fun z _ => n - (intOf z).toNat)
    case atStart => exact ⟨0, none, 0, [], by omega, rfl, rfl, HX5⟩
    case round =>
      clear HX5
      obtain ⟨k, A, c, vs, hk, rfl, HM, HX⟩ := hrel
      have HLN : Hid (vs.length = k) := by
        have h := congrArg List.length HM.out
        rw [List.length_map, rep_len] at h
        exact h
      by_cases hlt : k < n
      · have hlt' : (k : Int) < (n : Int) := by omega
        obtain ⟨ls, hls⟩ : ∃ ls, ls = (rep rVote k l9).2 := ⟨_, rfl⟩
        obtain ⟨m, hm⟩ : ∃ m : Mg, m = ⟨a1, a2, a3, a4, a5, a6, a7, A, c, vs⟩ := ⟨_, rfl⟩
        rw [← hls, ← hm] at HX
        have HX0 : Hid (RM w wr.drew N ge gm m ls) := HX.out.nofr (Fr.refl _ _).drew
        have HOL : Hid (m.votes.length ≤ 64) := by
          show _ ≤ _
          rw [hm]
          show vs.length ≤ 64
          have := HLN.out
          omega
        have NEXT : Hid (∀ (W : World) (A' : Option Addr) (c' : Nat), RM w W N ge gm { m with va := A', vc := c', votes := m.votes ++ [Vt.of (rVote ls).1] } (rT (rN (rN ls).2).2).2 →
            ∃ (k' : Nat) (A : Option Addr) (c : Nat) (vs : List Vt), k' ≤ n ∧ IntKind.u64.wrap ((k : Int) + 1) = (k' : Int) ∧ k' = k + 1 ∧ Hid (vs = (rep rVote k' l9).1.map Vt.of) ∧ Hid (RM w W N ge gm ⟨a1, a2, a3, a4, a5, a6, a7, A, c, vs⟩ (rep rVote k' l9).2)) := by
          rintro W A' c' hx
          have hs := rep_snoc rVote k l9
          refine ⟨k + 1, A', c', vs ++ [Vt.of (rVote ls).1], by omega, IntWalk.u64_in _ (by omega), rfl, ?_, ?_⟩
          rotate_left
          · show RM _ _ _ _ _ _ _
            rw [hs, ← hls]
            rw [hm] at hx
            exact hx
          · show _ = List.map _ _
            rw [hs, ← hls, List.map_append, ← HM.out]
            rfl
        have HLS := Lib.hid hls
        have HMM := Lib.hid hm
        clear HX HM hls hm HLN
        go_upto_region 6 with fail
        refine wp_region_held_drew (S := fun w' => w'.cell? ⟨w.heap.size, 0, none⟩ = some (.pointer (some ⟨ge, 0, none⟩))) (by kernel_rfl) (HX0.out.box.cell 0) (fun hHeld => ?_)
        refine wpAnyH_take (i := 0) (oi := ⟨some 26, _, _, _, _, _⟩) (v := ?_) rfl (by kernel_rfl) (by kernel_rfl) (by kernel_rfl) (fun _ _ _ h => h) (Or.inl ⟨by rfl, ?_⟩) (by assumption) ?_
        rotate_left 1
        · (intro w hSw; (try dsimp only at hSw); go_simp) <;> (with_reducible rfl)
        try simp only [Act.put, List.setIfInBounds_toArray, List.set_cons_zero, List.set_cons_succ]
        refine wpAnyH_take (i := 2) (oi := ⟨some 28, _, _, _, _, _⟩) (v := ?_) rfl (by kernel_rfl) (by kernel_rfl) (by kernel_rfl) (fun _ _ _ h => h) (Or.inl ⟨by rfl, ?_⟩) (by assumption) ?_
        rotate_left 1
        · (intro w hSw; (try dsimp only at hSw); go_simp) <;> (with_reducible rfl)
        try simp only [Act.put, List.setIfInBounds_toArray, List.set_cons_zero, List.set_cons_succ]
        refine wpAnyH_take (i := 4) (oi := ⟨some 30, _, _, _, _, _⟩) (v := ?_) rfl (by kernel_rfl) (by kernel_rfl) (by kernel_rfl) (fun _ _ _ h => h) (Or.inl ⟨by rfl, ?_⟩) (by assumption) ?_
        rotate_left 1
        · (intro w hSw; (try dsimp only at hSw); go_simp) <;> (with_reducible rfl)
        try simp only [Act.put, List.setIfInBounds_toArray, List.set_cons_zero, List.set_cons_succ]
        refine wpAnyH_take (i := 6) (oi := ⟨some 32, _, _, _, _, _⟩) (v := ?_) rfl (by kernel_rfl) (by kernel_rfl) (by kernel_rfl) (fun _ _ _ h => h) (Or.inl ⟨by rfl, ?_⟩) (by assumption) ?_
        rotate_left 1
        · (intro w hSw; (try dsimp only at hSw); go_simp) <;> (with_reducible rfl)
        try simp only [Act.put, List.setIfInBounds_toArray, List.set_cons_zero, List.set_cons_succ]
        refine wpAnyH_ready (rs := [1, 3]) (by kernel_rfl) (by simp) ?_
        refine AllReadyH.cons (o := ⟨some 27, _, _, _, _, _⟩) rfl (fun K hK => ?_) (AllReadyH.cons (o := ⟨some 29, _, _, _, _, _⟩) rfl (fun K hK => ?_) AllReadyH.nil)
        · have o3 : (wr.drew).cell? ⟨gm, 7, none⟩ = some (.slice m.va m.votes.length m.vc) := HX0.out.bm.cell 7
          go_simp
          clear hHeld
          refine hK.out _ _ ?_ (fun hHeld => ?_)
          · exact HX0.out.box.cell 0
          clear hK K
          try simp only [Act.put, List.setIfInBounds_toArray, List.set_cons_zero, List.set_cons_succ]
          clear o3
          refine wpAnyH_ready (rs := [3]) (by kernel_rfl) (by simp) ?_
          refine AllReadyH.cons (o := ⟨some 29, _, _, _, _, _⟩) rfl (fun K hK => ?_) AllReadyH.nil
          go_simp
          go_at_call 38
          refine (KS.out _ _ HX0.out.re).mono ?_
          rintro e wa ⟨rfl, hre, hf⟩
          have HXa := Lib.hid (HX0.out.step hf hre)
          clear hre hf
          clear hHeld
          refine hK.out _ _ ?_ (fun hHeld => ?_)
          · exact HXa.out.box.cell 0
          clear hK K
          try simp only [Act.put, List.setIfInBounds_toArray, List.set_cons_zero, List.set_cons_succ]
          refine wpAnyH_ready (rs := [5]) (by kernel_rfl) (by simp) ?_
          refine AllReadyH.cons (o := ⟨some 31, _, _, _, _, _⟩) rfl (fun K hK => ?_) AllReadyH.nil
          go_simp
          go_at_call 39
          refine (KN.out _ _ HXa.out.re).mono ?_
          rintro e wb ⟨rfl, hre, hf⟩
          have HXb := Lib.hid (HXa.out.step hf hre)
          clear hre hf
          clear hHeld
          refine hK.out _ _ ?_ (fun hHeld => ?_)
          · exact HXb.out.box.cell 0
          clear hK K
          try simp only [Act.put, List.setIfInBounds_toArray, List.set_cons_zero, List.set_cons_succ]
          refine wpAnyH_ready (rs := [7]) (by kernel_rfl) (by simp) ?_
          refine AllReadyH.cons (o := ⟨some 33, _, _, _, _, _⟩) rfl (fun K hK => ?_) AllReadyH.nil
          go_simp
          go_at_call 40
          refine (KT.out _ _ HXb.out.re).mono ?_
          rintro e wd ⟨rfl, hre, hf⟩
          have HXd := Lib.hid (HXb.out.step hf hre)
          clear hre hf
          clear hHeld
          refine hK.out _ _ ?_ (fun hHeld => ?_)
          · exact HXd.out.box.cell 0
          clear hK K
          try simp only [Act.put, List.setIfInBounds_toArray, List.set_cons_zero, List.set_cons_succ]
          refine wpAnyH_take (i := 8) (oi := ⟨some 34, _, _, _, _, _⟩) (v := ?_) rfl (by kernel_rfl) (by kernel_rfl) (by kernel_rfl) (fun _ _ _ h => h) (Or.inl ⟨by rfl, ?_⟩) (by assumption) ?_
          rotate_left 1
          · (intro w hSw; (try dsimp only at hSw); go_simp) <;> (with_reducible rfl)
          try simp only [Act.put, List.setIfInBounds_toArray, List.set_cons_zero, List.set_cons_succ]
          refine wpAnyH_ready (rs := [9]) (by kernel_rfl) (by simp) ?_
          refine AllReadyH.cons (o := ⟨some 35, _, _, _, _, _⟩) rfl (fun K hK => ?_) AllReadyH.nil
          go_simp
          clear hHeld
          refine hK.out _ _ ?_ (fun hHeld => ?_)
          · exact (HXd.out.nofr ((Fr.refl NoBlk wd).alloc (.cells #[.int .i64 (sm (rN ls).1), .int .u64 ((rN (rN ls).2).1 : Int), .string (bstr (rT (rN (rN ls).2).2).1)] 48))).box.cell 0
          clear hK K
          try simp only [Act.put, List.setIfInBounds_toArray, List.set_cons_zero, List.set_cons_succ]
          refine wpAnyH_ready (rs := [10]) (by kernel_rfl) (by simp) ?_
          refine AllReadyH.cons (o := ⟨some 36, _, _, _, _, _⟩) rfl (fun K hK => ?_) AllReadyH.nil
          have HXe := Lib.hid (HXd.out.nofr ((Fr.refl NoBlk wd).alloc (.cells #[.int .i64 (sm (rN ls).1), .int .u64 ((rN (rN ls).2).1 : Int), .string (bstr (rT (rN (rN ls).2).2).1)] 48)))
          have HR8 : Hid (Rd (wd.alloc (.cells #[.int .i64 (sm (rN ls).1), .int .u64 ((rN (rN ls).2).1 : Int), .string (bstr (rT (rN (rN ls).2).2).1)] 48)) (some ⟨wd.heap.size, 0, none⟩) (vtc (Vt.of (rVote ls).1))) := Rd.of_cells (Bk.new wd _ _)
          refine step_appO rfl _ _ 24 rfl w.heap.size 48 i0 _ 3 32 Tryd.underlying24 hi hz0 hz1 hz2 rfl (by decide) (.slice m.va m.votes.length m.vc) m.votes.length (vtsc m.votes) rfl HXe.out.vo ⟨wd.heap.size, 0, none⟩ 1 1 (vtc (Vt.of (rVote ls).1)) rfl rfl HR8.out ?q1 ?q2 ?q3 HXe.out.fr.size ?_
          case q1 => intro y hy; simp only [vtc, List.mem_cons, List.not_mem_nil, or_false] at hy; rcases hy with rfl | rfl | rfl <;> rfl
          case q2 => have := HOL.out; unfold maxLen; omega
          case q3 => have := HOL.out; omega
          intro v9 w9 ho9 hg9 _
          obtain ⟨A9, c9, rfl, _, _⟩ := own_form ho9
          obtain ⟨k2, k3⟩ := HXe.out.grown hg9
          have o9 : w9.cell? ⟨gm, 7, none⟩ = some (.slice m.va m.votes.length m.vc) := k2.cell 7
          have f9 := k2.free 7
          have h9 := k3.cell 0
          have HXF := Lib.hid (HXe.out.push hg9 (x := (Vt.of (rVote ls).1)) ho9)
          clear ho9 hg9 k2 k3
          clear hHeld
          refine hK.out _ _ ?_ (fun hHeld => ?_)
          · exact h9
          clear hK K
          try simp only [Act.put, List.setIfInBounds_toArray, List.set_cons_zero, List.set_cons_succ]
          refine wpAnyH_take (i := 11) (oi := ⟨some 37, _, _, _, _, _⟩) (v := ?_) rfl (by kernel_rfl) (by kernel_rfl) (by kernel_rfl) (fun _ _ _ h => h) (Or.inl ⟨by rfl, ?_⟩) (by assumption) ?_
          rotate_left 1
          · (intro w hSw; (try dsimp only at hSw); go_simp) <;> (with_reducible rfl)
          try simp only [Act.put, List.setIfInBounds_toArray, List.set_cons_zero, List.set_cons_succ]
          refine wpAnyH_ready (rs := [12]) (by kernel_rfl) (by simp) ?_
          refine AllReadyH.cons (o := ⟨none, _, _, _, _, _⟩) rfl (fun K hK => ?_) AllReadyH.nil
          go_simp
          clear hHeld
          refine hK.out _ _ ?_ (fun hHeld => ?_)
          · exact HXF.out.box.cell 0
          clear hK K
          try simp only [Act.put, List.setIfInBounds_toArray, List.set_cons_zero, List.set_cons_succ]
          refine wpAnyH_done (by kernel_rfl) ?_ _
          have HNX := Lib.hid (NEXT.out _ _ _ HXF.out)
          clear HXF HXe HXd HXb HXa HX0 HR8 NEXT hHeld
          go_wp2_with fail
          go_roundw
          case rel =>
            obtain ⟨k', A', c', vs', h1, h2, rfl, h4, h5⟩ := HNX.out
            exact ⟨_, A', c', vs', h1, by go_num, h4, h5⟩
          case measure => simp [intOf]; omega
        · go_simp
          go_at_call 38
          refine (KS.out _ _ HX0.out.re).mono ?_
          rintro e wa ⟨rfl, hre, hf⟩
          have HXa := Lib.hid (HX0.out.step hf hre)
          clear hre hf
          clear hHeld
          refine hK.out _ _ ?_ (fun hHeld => ?_)
          · exact HXa.out.box.cell 0
          clear hK K
          try simp only [Act.put, List.setIfInBounds_toArray, List.set_cons_zero, List.set_cons_succ]
          refine wpAnyH_ready (rs := [1, 5]) (by kernel_rfl) (by simp) ?_
          refine AllReadyH.cons (o := ⟨some 27, _, _, _, _, _⟩) rfl (fun K hK => ?_) (AllReadyH.cons (o := ⟨some 31, _, _, _, _, _⟩) rfl (fun K hK => ?_) AllReadyH.nil)
          · have o3 : (wa).cell? ⟨gm, 7, none⟩ = some (.slice m.va m.votes.length m.vc) := HXa.out.bm.cell 7
            go_simp
            clear hHeld
            refine hK.out _ _ ?_ (fun hHeld => ?_)
            · exact HXa.out.box.cell 0
            clear hK K
            try simp only [Act.put, List.setIfInBounds_toArray, List.set_cons_zero, List.set_cons_succ]
            clear o3
            refine wpAnyH_ready (rs := [5]) (by kernel_rfl) (by simp) ?_
            refine AllReadyH.cons (o := ⟨some 31, _, _, _, _, _⟩) rfl (fun K hK => ?_) AllReadyH.nil
            go_simp
            go_at_call 39
            refine (KN.out _ _ HXa.out.re).mono ?_
            rintro e wb ⟨rfl, hre, hf⟩
            have HXb := Lib.hid (HXa.out.step hf hre)
            clear hre hf
            clear hHeld
            refine hK.out _ _ ?_ (fun hHeld => ?_)
            · exact HXb.out.box.cell 0
            clear hK K
            try simp only [Act.put, List.setIfInBounds_toArray, List.set_cons_zero, List.set_cons_succ]
            refine wpAnyH_ready (rs := [7]) (by kernel_rfl) (by simp) ?_
            refine AllReadyH.cons (o := ⟨some 33, _, _, _, _, _⟩) rfl (fun K hK => ?_) AllReadyH.nil
            go_simp
            go_at_call 40
            refine (KT.out _ _ HXb.out.re).mono ?_
            rintro e wd ⟨rfl, hre, hf⟩
            have HXd := Lib.hid (HXb.out.step hf hre)
            clear hre hf
            clear hHeld
            refine hK.out _ _ ?_ (fun hHeld => ?_)
            · exact HXd.out.box.cell 0
            clear hK K
            try simp only [Act.put, List.setIfInBounds_toArray, List.set_cons_zero, List.set_cons_succ]
            refine wpAnyH_take (i := 8) (oi := ⟨some 34, _, _, _, _, _⟩) (v := ?_) rfl (by kernel_rfl) (by kernel_rfl) (by kernel_rfl) (fun _ _ _ h => h) (Or.inl ⟨by rfl, ?_⟩) (by assumption) ?_
            rotate_left 1
            · (intro w hSw; (try dsimp only at hSw); go_simp) <;> (with_reducible rfl)
            try simp only [Act.put, List.setIfInBounds_toArray, List.set_cons_zero, List.set_cons_succ]
            refine wpAnyH_ready (rs := [9]) (by kernel_rfl) (by simp) ?_
            refine AllReadyH.cons (o := ⟨some 35, _, _, _, _, _⟩) rfl (fun K hK => ?_) AllReadyH.nil
            go_simp
            clear hHeld
            refine hK.out _ _ ?_ (fun hHeld => ?_)
            · exact (HXd.out.nofr ((Fr.refl NoBlk wd).alloc (.cells #[.int .i64 (sm (rN ls).1), .int .u64 ((rN (rN ls).2).1 : Int), .string (bstr (rT (rN (rN ls).2).2).1)] 48))).box.cell 0
            clear hK K
            try simp only [Act.put, List.setIfInBounds_toArray, List.set_cons_zero, List.set_cons_succ]
            refine wpAnyH_ready (rs := [10]) (by kernel_rfl) (by simp) ?_
            refine AllReadyH.cons (o := ⟨some 36, _, _, _, _, _⟩) rfl (fun K hK => ?_) AllReadyH.nil
            have HXe := Lib.hid (HXd.out.nofr ((Fr.refl NoBlk wd).alloc (.cells #[.int .i64 (sm (rN ls).1), .int .u64 ((rN (rN ls).2).1 : Int), .string (bstr (rT (rN (rN ls).2).2).1)] 48)))
            have HR8 : Hid (Rd (wd.alloc (.cells #[.int .i64 (sm (rN ls).1), .int .u64 ((rN (rN ls).2).1 : Int), .string (bstr (rT (rN (rN ls).2).2).1)] 48)) (some ⟨wd.heap.size, 0, none⟩) (vtc (Vt.of (rVote ls).1))) := Rd.of_cells (Bk.new wd _ _)
            refine step_appO rfl _ _ 24 rfl w.heap.size 48 i0 _ 3 32 Tryd.underlying24 hi hz0 hz1 hz2 rfl (by decide) (.slice m.va m.votes.length m.vc) m.votes.length (vtsc m.votes) rfl HXe.out.vo ⟨wd.heap.size, 0, none⟩ 1 1 (vtc (Vt.of (rVote ls).1)) rfl rfl HR8.out ?q1 ?q2 ?q3 HXe.out.fr.size ?_
            case q1 => intro y hy; simp only [vtc, List.mem_cons, List.not_mem_nil, or_false] at hy; rcases hy with rfl | rfl | rfl <;> rfl
            case q2 => have := HOL.out; unfold maxLen; omega
            case q3 => have := HOL.out; omega
            intro v9 w9 ho9 hg9 _
            obtain ⟨A9, c9, rfl, _, _⟩ := own_form ho9
            obtain ⟨k2, k3⟩ := HXe.out.grown hg9
            have o9 : w9.cell? ⟨gm, 7, none⟩ = some (.slice m.va m.votes.length m.vc) := k2.cell 7
            have f9 := k2.free 7
            have h9 := k3.cell 0
            have HXF := Lib.hid (HXe.out.push hg9 (x := (Vt.of (rVote ls).1)) ho9)
            clear ho9 hg9 k2 k3
            clear hHeld
            refine hK.out _ _ ?_ (fun hHeld => ?_)
            · exact h9
            clear hK K
            try simp only [Act.put, List.setIfInBounds_toArray, List.set_cons_zero, List.set_cons_succ]
            refine wpAnyH_take (i := 11) (oi := ⟨some 37, _, _, _, _, _⟩) (v := ?_) rfl (by kernel_rfl) (by kernel_rfl) (by kernel_rfl) (fun _ _ _ h => h) (Or.inl ⟨by rfl, ?_⟩) (by assumption) ?_
            rotate_left 1
            · (intro w hSw; (try dsimp only at hSw); go_simp) <;> (with_reducible rfl)
            try simp only [Act.put, List.setIfInBounds_toArray, List.set_cons_zero, List.set_cons_succ]
            refine wpAnyH_ready (rs := [12]) (by kernel_rfl) (by simp) ?_
            refine AllReadyH.cons (o := ⟨none, _, _, _, _, _⟩) rfl (fun K hK => ?_) AllReadyH.nil
            go_simp
            clear hHeld
            refine hK.out _ _ ?_ (fun hHeld => ?_)
            · exact HXF.out.box.cell 0
            clear hK K
            try simp only [Act.put, List.setIfInBounds_toArray, List.set_cons_zero, List.set_cons_succ]
            refine wpAnyH_done (by kernel_rfl) ?_ _
            have HNX := Lib.hid (NEXT.out _ _ _ HXF.out)
            clear HXF HXe HXd HXb HXa HX0 HR8 NEXT hHeld
            go_wp2_with fail
            go_roundw
            case rel =>
              obtain ⟨k', A', c', vs', h1, h2, rfl, h4, h5⟩ := HNX.out
              exact ⟨_, A', c', vs', h1, by go_num, h4, h5⟩
            case measure => simp [intOf]; omega
          · go_simp
            go_at_call 39
            refine (KN.out _ _ HXa.out.re).mono ?_
            rintro e wb ⟨rfl, hre, hf⟩
            have HXb := Lib.hid (HXa.out.step hf hre)
            clear hre hf
            clear hHeld
            refine hK.out _ _ ?_ (fun hHeld => ?_)
            · exact HXb.out.box.cell 0
            clear hK K
            try simp only [Act.put, List.setIfInBounds_toArray, List.set_cons_zero, List.set_cons_succ]
            refine wpAnyH_ready (rs := [1, 7]) (by kernel_rfl) (by simp) ?_
            refine AllReadyH.cons (o := ⟨some 27, _, _, _, _, _⟩) rfl (fun K hK => ?_) (AllReadyH.cons (o := ⟨some 33, _, _, _, _, _⟩) rfl (fun K hK => ?_) AllReadyH.nil)
            · have o3 : (wb).cell? ⟨gm, 7, none⟩ = some (.slice m.va m.votes.length m.vc) := HXb.out.bm.cell 7
              go_simp
              clear hHeld
              refine hK.out _ _ ?_ (fun hHeld => ?_)
              · exact HXb.out.box.cell 0
              clear hK K
              try simp only [Act.put, List.setIfInBounds_toArray, List.set_cons_zero, List.set_cons_succ]
              clear o3
              refine wpAnyH_ready (rs := [7]) (by kernel_rfl) (by simp) ?_
              refine AllReadyH.cons (o := ⟨some 33, _, _, _, _, _⟩) rfl (fun K hK => ?_) AllReadyH.nil
              go_simp
              go_at_call 40
              refine (KT.out _ _ HXb.out.re).mono ?_
              rintro e wd ⟨rfl, hre, hf⟩
              have HXd := Lib.hid (HXb.out.step hf hre)
              clear hre hf
              clear hHeld
              refine hK.out _ _ ?_ (fun hHeld => ?_)
              · exact HXd.out.box.cell 0
              clear hK K
              try simp only [Act.put, List.setIfInBounds_toArray, List.set_cons_zero, List.set_cons_succ]
              refine wpAnyH_take (i := 8) (oi := ⟨some 34, _, _, _, _, _⟩) (v := ?_) rfl (by kernel_rfl) (by kernel_rfl) (by kernel_rfl) (fun _ _ _ h => h) (Or.inl ⟨by rfl, ?_⟩) (by assumption) ?_
              rotate_left 1
              · (intro w hSw; (try dsimp only at hSw); go_simp) <;> (with_reducible rfl)
              try simp only [Act.put, List.setIfInBounds_toArray, List.set_cons_zero, List.set_cons_succ]
              refine wpAnyH_ready (rs := [9]) (by kernel_rfl) (by simp) ?_
              refine AllReadyH.cons (o := ⟨some 35, _, _, _, _, _⟩) rfl (fun K hK => ?_) AllReadyH.nil
              go_simp
              clear hHeld
              refine hK.out _ _ ?_ (fun hHeld => ?_)
              · exact (HXd.out.nofr ((Fr.refl NoBlk wd).alloc (.cells #[.int .i64 (sm (rN ls).1), .int .u64 ((rN (rN ls).2).1 : Int), .string (bstr (rT (rN (rN ls).2).2).1)] 48))).box.cell 0
              clear hK K
              try simp only [Act.put, List.setIfInBounds_toArray, List.set_cons_zero, List.set_cons_succ]
              refine wpAnyH_ready (rs := [10]) (by kernel_rfl) (by simp) ?_
              refine AllReadyH.cons (o := ⟨some 36, _, _, _, _, _⟩) rfl (fun K hK => ?_) AllReadyH.nil
              have HXe := Lib.hid (HXd.out.nofr ((Fr.refl NoBlk wd).alloc (.cells #[.int .i64 (sm (rN ls).1), .int .u64 ((rN (rN ls).2).1 : Int), .string (bstr (rT (rN (rN ls).2).2).1)] 48)))
              have HR8 : Hid (Rd (wd.alloc (.cells #[.int .i64 (sm (rN ls).1), .int .u64 ((rN (rN ls).2).1 : Int), .string (bstr (rT (rN (rN ls).2).2).1)] 48)) (some ⟨wd.heap.size, 0, none⟩) (vtc (Vt.of (rVote ls).1))) := Rd.of_cells (Bk.new wd _ _)
              refine step_appO rfl _ _ 24 rfl w.heap.size 48 i0 _ 3 32 Tryd.underlying24 hi hz0 hz1 hz2 rfl (by decide) (.slice m.va m.votes.length m.vc) m.votes.length (vtsc m.votes) rfl HXe.out.vo ⟨wd.heap.size, 0, none⟩ 1 1 (vtc (Vt.of (rVote ls).1)) rfl rfl HR8.out ?q1 ?q2 ?q3 HXe.out.fr.size ?_
              case q1 => intro y hy; simp only [vtc, List.mem_cons, List.not_mem_nil, or_false] at hy; rcases hy with rfl | rfl | rfl <;> rfl
              case q2 => have := HOL.out; unfold maxLen; omega
              case q3 => have := HOL.out; omega
              intro v9 w9 ho9 hg9 _
              obtain ⟨A9, c9, rfl, _, _⟩ := own_form ho9
              obtain ⟨k2, k3⟩ := HXe.out.grown hg9
              have o9 : w9.cell? ⟨gm, 7, none⟩ = some (.slice m.va m.votes.length m.vc) := k2.cell 7
              have f9 := k2.free 7
              have h9 := k3.cell 0
              have HXF := Lib.hid (HXe.out.push hg9 (x := (Vt.of (rVote ls).1)) ho9)
              clear ho9 hg9 k2 k3
              clear hHeld
              refine hK.out _ _ ?_ (fun hHeld => ?_)
              · exact h9
              clear hK K
              try simp only [Act.put, List.setIfInBounds_toArray, List.set_cons_zero, List.set_cons_succ]
              refine wpAnyH_take (i := 11) (oi := ⟨some 37, _, _, _, _, _⟩) (v := ?_) rfl (by kernel_rfl) (by kernel_rfl) (by kernel_rfl) (fun _ _ _ h => h) (Or.inl ⟨by rfl, ?_⟩) (by assumption) ?_
              rotate_left 1
              · (intro w hSw; (try dsimp only at hSw); go_simp) <;> (with_reducible rfl)
              try simp only [Act.put, List.setIfInBounds_toArray, List.set_cons_zero, List.set_cons_succ]
              refine wpAnyH_ready (rs := [12]) (by kernel_rfl) (by simp) ?_
              refine AllReadyH.cons (o := ⟨none, _, _, _, _, _⟩) rfl (fun K hK => ?_) AllReadyH.nil
              go_simp
              clear hHeld
              refine hK.out _ _ ?_ (fun hHeld => ?_)
              · exact HXF.out.box.cell 0
              clear hK K
              try simp only [Act.put, List.setIfInBounds_toArray, List.set_cons_zero, List.set_cons_succ]
              refine wpAnyH_done (by kernel_rfl) ?_ _
              have HNX := Lib.hid (NEXT.out _ _ _ HXF.out)
              clear HXF HXe HXd HXb HXa HX0 HR8 NEXT hHeld
              go_wp2_with fail
              go_roundw
              case rel =>
                obtain ⟨k', A', c', vs', h1, h2, rfl, h4, h5⟩ := HNX.out
                exact ⟨_, A', c', vs', h1, by go_num, h4, h5⟩
              case measure => simp [intOf]; omega
            · go_simp
              go_at_call 40
              refine (KT.out _ _ HXb.out.re).mono ?_
              rintro e wd ⟨rfl, hre, hf⟩
              have HXd := Lib.hid (HXb.out.step hf hre)
              clear hre hf
              clear hHeld
              refine hK.out _ _ ?_ (fun hHeld => ?_)
              · exact HXd.out.box.cell 0
              clear hK K
              try simp only [Act.put, List.setIfInBounds_toArray, List.set_cons_zero, List.set_cons_succ]
              refine wpAnyH_take (i := 8) (oi := ⟨some 34, _, _, _, _, _⟩) (v := ?_) rfl (by kernel_rfl) (by kernel_rfl) (by kernel_rfl) (fun _ _ _ h => h) (Or.inl ⟨by rfl, ?_⟩) (by assumption) ?_
              rotate_left 1
              · (intro w hSw; (try dsimp only at hSw); go_simp) <;> (with_reducible rfl)
              try simp only [Act.put, List.setIfInBounds_toArray, List.set_cons_zero, List.set_cons_succ]
              refine wpAnyH_ready (rs := [1, 9]) (by kernel_rfl) (by simp) ?_
              refine AllReadyH.cons (o := ⟨some 27, _, _, _, _, _⟩) rfl (fun K hK => ?_) (AllReadyH.cons (o := ⟨some 35, _, _, _, _, _⟩) rfl (fun K hK => ?_) AllReadyH.nil)
              · have o3 : (wd).cell? ⟨gm, 7, none⟩ = some (.slice m.va m.votes.length m.vc) := HXd.out.bm.cell 7
                go_simp
                clear hHeld
                refine hK.out _ _ ?_ (fun hHeld => ?_)
                · exact HXd.out.box.cell 0
                clear hK K
                try simp only [Act.put, List.setIfInBounds_toArray, List.set_cons_zero, List.set_cons_succ]
                clear o3
                refine wpAnyH_ready (rs := [9]) (by kernel_rfl) (by simp) ?_
                refine AllReadyH.cons (o := ⟨some 35, _, _, _, _, _⟩) rfl (fun K hK => ?_) AllReadyH.nil
                go_simp
                clear hHeld
                refine hK.out _ _ ?_ (fun hHeld => ?_)
                · exact (HXd.out.nofr ((Fr.refl NoBlk wd).alloc (.cells #[.int .i64 (sm (rN ls).1), .int .u64 ((rN (rN ls).2).1 : Int), .string (bstr (rT (rN (rN ls).2).2).1)] 48))).box.cell 0
                clear hK K
                try simp only [Act.put, List.setIfInBounds_toArray, List.set_cons_zero, List.set_cons_succ]
                refine wpAnyH_ready (rs := [10]) (by kernel_rfl) (by simp) ?_
                refine AllReadyH.cons (o := ⟨some 36, _, _, _, _, _⟩) rfl (fun K hK => ?_) AllReadyH.nil
                have HXe := Lib.hid (HXd.out.nofr ((Fr.refl NoBlk wd).alloc (.cells #[.int .i64 (sm (rN ls).1), .int .u64 ((rN (rN ls).2).1 : Int), .string (bstr (rT (rN (rN ls).2).2).1)] 48)))
                have HR8 : Hid (Rd (wd.alloc (.cells #[.int .i64 (sm (rN ls).1), .int .u64 ((rN (rN ls).2).1 : Int), .string (bstr (rT (rN (rN ls).2).2).1)] 48)) (some ⟨wd.heap.size, 0, none⟩) (vtc (Vt.of (rVote ls).1))) := Rd.of_cells (Bk.new wd _ _)
                refine step_appO rfl _ _ 24 rfl w.heap.size 48 i0 _ 3 32 Tryd.underlying24 hi hz0 hz1 hz2 rfl (by decide) (.slice m.va m.votes.length m.vc) m.votes.length (vtsc m.votes) rfl HXe.out.vo ⟨wd.heap.size, 0, none⟩ 1 1 (vtc (Vt.of (rVote ls).1)) rfl rfl HR8.out ?q1 ?q2 ?q3 HXe.out.fr.size ?_
                case q1 => intro y hy; simp only [vtc, List.mem_cons, List.not_mem_nil, or_false] at hy; rcases hy with rfl | rfl | rfl <;> rfl
                case q2 => have := HOL.out; unfold maxLen; omega
                case q3 => have := HOL.out; omega
                intro v9 w9 ho9 hg9 _
                obtain ⟨A9, c9, rfl, _, _⟩ := own_form ho9
                obtain ⟨k2, k3⟩ := HXe.out.grown hg9
                have o9 : w9.cell? ⟨gm, 7, none⟩ = some (.slice m.va m.votes.length m.vc) := k2.cell 7
                have f9 := k2.free 7
                have h9 := k3.cell 0
                have HXF := Lib.hid (HXe.out.push hg9 (x := (Vt.of (rVote ls).1)) ho9)
                clear ho9 hg9 k2 k3
                clear hHeld
                refine hK.out _ _ ?_ (fun hHeld => ?_)
                · exact h9
                clear hK K
                try simp only [Act.put, List.setIfInBounds_toArray, List.set_cons_zero, List.set_cons_succ]
                refine wpAnyH_take (i := 11) (oi := ⟨some 37, _, _, _, _, _⟩) (v := ?_) rfl (by kernel_rfl) (by kernel_rfl) (by kernel_rfl) (fun _ _ _ h => h) (Or.inl ⟨by rfl, ?_⟩) (by assumption) ?_
                rotate_left 1
                · (intro w hSw; (try dsimp only at hSw); go_simp) <;> (with_reducible rfl)
                try simp only [Act.put, List.setIfInBounds_toArray, List.set_cons_zero, List.set_cons_succ]
                refine wpAnyH_ready (rs := [12]) (by kernel_rfl) (by simp) ?_
                refine AllReadyH.cons (o := ⟨none, _, _, _, _, _⟩) rfl (fun K hK => ?_) AllReadyH.nil
                go_simp
                clear hHeld
                refine hK.out _ _ ?_ (fun hHeld => ?_)
                · exact HXF.out.box.cell 0
                clear hK K
                try simp only [Act.put, List.setIfInBounds_toArray, List.set_cons_zero, List.set_cons_succ]
                refine wpAnyH_done (by kernel_rfl) ?_ _
                have HNX := Lib.hid (NEXT.out _ _ _ HXF.out)
                clear HXF HXe HXd HXb HXa HX0 HR8 NEXT hHeld
                go_wp2_with fail
                go_roundw
                case rel =>
                  obtain ⟨k', A', c', vs', h1, h2, rfl, h4, h5⟩ := HNX.out
                  exact ⟨_, A', c', vs', h1, by go_num, h4, h5⟩
                case measure => simp [intOf]; omega
              · go_simp
                clear hHeld
                refine hK.out _ _ ?_ (fun hHeld => ?_)
                · exact (HXd.out.nofr ((Fr.refl NoBlk wd).alloc (.cells #[.int .i64 (sm (rN ls).1), .int .u64 ((rN (rN ls).2).1 : Int), .string (bstr (rT (rN (rN ls).2).2).1)] 48))).box.cell 0
                clear hK K
                try simp only [Act.put, List.setIfInBounds_toArray, List.set_cons_zero, List.set_cons_succ]
                refine wpAnyH_ready (rs := [1]) (by kernel_rfl) (by simp) ?_
                refine AllReadyH.cons (o := ⟨some 27, _, _, _, _, _⟩) rfl (fun K hK => ?_) AllReadyH.nil
                have o3 : (wd.alloc (.cells #[.int .i64 (sm (rN ls).1), .int .u64 ((rN (rN ls).2).1 : Int), .string (bstr (rT (rN (rN ls).2).2).1)] 48)).cell? ⟨gm, 7, none⟩ = some (.slice m.va m.votes.length m.vc) := (HXd.out.nofr ((Fr.refl NoBlk wd).alloc _)).bm.cell 7
                go_simp
                clear hHeld
                refine hK.out _ _ ?_ (fun hHeld => ?_)
                · exact (HXd.out.nofr ((Fr.refl NoBlk wd).alloc (.cells #[.int .i64 (sm (rN ls).1), .int .u64 ((rN (rN ls).2).1 : Int), .string (bstr (rT (rN (rN ls).2).2).1)] 48))).box.cell 0
                clear hK K
                try simp only [Act.put, List.setIfInBounds_toArray, List.set_cons_zero, List.set_cons_succ]
                clear o3
                refine wpAnyH_ready (rs := [10]) (by kernel_rfl) (by simp) ?_
                refine AllReadyH.cons (o := ⟨some 36, _, _, _, _, _⟩) rfl (fun K hK => ?_) AllReadyH.nil
                have HXe := Lib.hid (HXd.out.nofr ((Fr.refl NoBlk wd).alloc (.cells #[.int .i64 (sm (rN ls).1), .int .u64 ((rN (rN ls).2).1 : Int), .string (bstr (rT (rN (rN ls).2).2).1)] 48)))
                have HR8 : Hid (Rd (wd.alloc (.cells #[.int .i64 (sm (rN ls).1), .int .u64 ((rN (rN ls).2).1 : Int), .string (bstr (rT (rN (rN ls).2).2).1)] 48)) (some ⟨wd.heap.size, 0, none⟩) (vtc (Vt.of (rVote ls).1))) := Rd.of_cells (Bk.new wd _ _)
                refine step_appO rfl _ _ 24 rfl w.heap.size 48 i0 _ 3 32 Tryd.underlying24 hi hz0 hz1 hz2 rfl (by decide) (.slice m.va m.votes.length m.vc) m.votes.length (vtsc m.votes) rfl HXe.out.vo ⟨wd.heap.size, 0, none⟩ 1 1 (vtc (Vt.of (rVote ls).1)) rfl rfl HR8.out ?q1 ?q2 ?q3 HXe.out.fr.size ?_
                case q1 => intro y hy; simp only [vtc, List.mem_cons, List.not_mem_nil, or_false] at hy; rcases hy with rfl | rfl | rfl <;> rfl
                case q2 => have := HOL.out; unfold maxLen; omega
                case q3 => have := HOL.out; omega
                intro v9 w9 ho9 hg9 _
                obtain ⟨A9, c9, rfl, _, _⟩ := own_form ho9
                obtain ⟨k2, k3⟩ := HXe.out.grown hg9
                have o9 : w9.cell? ⟨gm, 7, none⟩ = some (.slice m.va m.votes.length m.vc) := k2.cell 7
                have f9 := k2.free 7
                have h9 := k3.cell 0
                have HXF := Lib.hid (HXe.out.push hg9 (x := (Vt.of (rVote ls).1)) ho9)
                clear ho9 hg9 k2 k3
                clear hHeld
                refine hK.out _ _ ?_ (fun hHeld => ?_)
                · exact h9
                clear hK K
                try simp only [Act.put, List.setIfInBounds_toArray, List.set_cons_zero, List.set_cons_succ]
                refine wpAnyH_take (i := 11) (oi := ⟨some 37, _, _, _, _, _⟩) (v := ?_) rfl (by kernel_rfl) (by kernel_rfl) (by kernel_rfl) (fun _ _ _ h => h) (Or.inl ⟨by rfl, ?_⟩) (by assumption) ?_
                rotate_left 1
                · (intro w hSw; (try dsimp only at hSw); go_simp) <;> (with_reducible rfl)
                try simp only [Act.put, List.setIfInBounds_toArray, List.set_cons_zero, List.set_cons_succ]
                refine wpAnyH_ready (rs := [12]) (by kernel_rfl) (by simp) ?_
                refine AllReadyH.cons (o := ⟨none, _, _, _, _, _⟩) rfl (fun K hK => ?_) AllReadyH.nil
                go_simp
                clear hHeld
                refine hK.out _ _ ?_ (fun hHeld => ?_)
                · exact HXF.out.box.cell 0
                clear hK K
                try simp only [Act.put, List.setIfInBounds_toArray, List.set_cons_zero, List.set_cons_succ]
                refine wpAnyH_done (by kernel_rfl) ?_ _
                have HNX := Lib.hid (NEXT.out _ _ _ HXF.out)
                clear HXF HXe HXd HXb HXa HX0 HR8 NEXT hHeld
                go_wp2_with fail
                go_roundw
                case rel =>
                  obtain ⟨k', A', c', vs', h1, h2, rfl, h4, h5⟩ := HNX.out
                  exact ⟨_, A', c', vs', h1, by go_num, h4, h5⟩
                case measure => simp [intOf]; omega
      · obtain rfl : k = n := by omega
        obtain ⟨m, hm⟩ : ∃ m : Mg, m = ⟨a1, a2, a3, a4, a5, a6, a7, A, c, vs⟩ := ⟨_, rfl⟩
        rw [← hm] at HX
        have HMOF : Hid (MOf m (rMsg l).1) := by
          obtain ⟨q0, q1, q2, q3, q4, q5⟩ := HA.out
          show MOf _ _
          rw [hm]
          exact mOf_read A c q0 q1 q2 q3 q4 q5 HA6.out.1 HA6.out.2 HA7.out.1 HA7.out.2 HNN.out.1 HNN.out.2 HL9.out HM.out
        clear hm HM HLN HA HA6 HA7 HNN HL9
        obtain ⟨gr, hgr⟩ : ∃ gr, gr = w.heap.size + 1 := ⟨_, rfl⟩
        have hres : Bk wr gr 26 zRef := by rw [hgr]; exact HX.out.res
        have p0 : wr.cell? ⟨gm, 0, none⟩ = some (.int .i64 m.kind) := HX.out.bm.cell 0
        have r0 : wr.cell? ⟨gr, 0, none⟩ = some (.int .i64 0) := hres.cell 0
        have s0 := hres.free 0
        have p1 : wr.cell? ⟨gm, 1, none⟩ = some (.int .i64 m.frm) := HX.out.bm.cell 1
        have r1 : wr.cell? ⟨gr, 1, none⟩ = some (.int .i64 0) := hres.cell 1
        have s1 := hres.free 1
        have p2 : wr.cell? ⟨gm, 2, none⟩ = some (.int .i64 m.dst) := HX.out.bm.cell 2
        have r2 : wr.cell? ⟨gr, 2, none⟩ = some (.int .i64 0) := hres.cell 2
        have s2 := hres.free 2
        have p3 : wr.cell? ⟨gm, 3, none⟩ = some (.int .i64 m.grp) := HX.out.bm.cell 3
        have r3 : wr.cell? ⟨gr, 3, none⟩ = some (.int .i64 0) := hres.cell 3
        have s3 := hres.free 3
        have p4 : wr.cell? ⟨gm, 4, none⟩ = some (.int .i64 m.slot) := HX.out.bm.cell 4
        have r4 : wr.cell? ⟨gr, 4, none⟩ = some (.int .i64 0) := hres.cell 4
        have s4 := hres.free 4
        have p5 : wr.cell? ⟨gm, 5, none⟩ = some (.int .u64 (m.ballot : Int)) := HX.out.bm.cell 5
        have r5 : wr.cell? ⟨gr, 5, none⟩ = some (.int .u64 0) := hres.cell 5
        have s5 := hres.free 5
        have p6 : wr.cell? ⟨gm, 6, none⟩ = some (.string (bstr m.value)) := HX.out.bm.cell 6
        have r6 : wr.cell? ⟨gr, 6, none⟩ = some (.string { data := #[] }) := hres.cell 6
        have s6 := hres.free 6
        have p7 : wr.cell? ⟨gm, 7, none⟩ = some (.slice m.va m.votes.length m.vc) := HX.out.bm.cell 7
        have r7 : wr.cell? ⟨gr, 7, none⟩ = some (.slice none 0 0) := hres.cell 7
        have s7 := hres.free 7
        obtain ⟨wz, hwz⟩ : ∃ wz, wz = ((((((((wr.setCell ⟨gr, 0, none⟩ (.int .i64 m.kind)).setCell ⟨gr, 1, none⟩ (.int .i64 m.frm)).setCell ⟨gr, 2, none⟩ (.int .i64 m.dst)).setCell ⟨gr, 3, none⟩ (.int .i64 m.grp)).setCell ⟨gr, 4, none⟩ (.int .i64 m.slot)).setCell ⟨gr, 5, none⟩ (.int .u64 (m.ballot : Int))).setCell ⟨gr, 6, none⟩ (.string (bstr m.value))).setCell ⟨gr, 7, none⟩ (.slice m.va m.votes.length m.vc)) := ⟨_, rfl⟩
        have hfz : Fr (fun k => k = gr) wr wz := by
          rw [hwz]
          exact (((((((((Fr.refl (fun k => k = gr) wr).setCell (p := ⟨gr, 0, none⟩) (fun _ => rfl) _).setCell (p := ⟨gr, 1, none⟩) (fun _ => rfl) _).setCell (p := ⟨gr, 2, none⟩) (fun _ => rfl) _).setCell (p := ⟨gr, 3, none⟩) (fun _ => rfl) _).setCell (p := ⟨gr, 4, none⟩) (fun _ => rfl) _).setCell (p := ⟨gr, 5, none⟩) (fun _ => rfl) _).setCell (p := ⟨gr, 6, none⟩) (fun _ => rfl) _).setCell (p := ⟨gr, 7, none⟩) (fun _ => rfl) _)
        have HBZ : Hid (Bk wz gr 26 (mga m)) := by
          show Bk _ _ _ _
          rw [hwz]
          refine Bk.cast ((((((((hres.put 0 (.int .i64 m.kind)).put 1 (.int .i64 m.frm)).put 2 (.int .i64 m.dst)).put 3 (.int .i64 m.grp)).put 4 (.int .i64 m.slot)).put 5 (.int .u64 (m.ballot : Int))).put 6 (.string (bstr m.value))).put 7 (.slice m.va m.votes.length m.vc)) ?_
          unfold zRef mga
          simp only [List.setIfInBounds_toArray, List.set_cons_zero, List.set_cons_succ]
        have HFIN : Hid (∃ q, mgv m = mgv q ∧ RPost w wz ge l q) := ⟨m, rfl, HMOF.out, own_fr HX.out.vo hfz (fun k hk e => own_apart HX.out.vo hres (by decide) (e ▸ hk)), HX.out.fr.step hfz (fun k hk e => by omega)⟩
        have HWZ := Lib.hid hwz
        clear hwz hfz HX hres
        rw [← hgr]
        clear hgr
        go_wp2_with fail
        rw [← HWZ.out]
        clear HWZ
        have z0 : wz.cell? ⟨gr, 0, none⟩ = some (.int .i64 m.kind) := HBZ.out.cell 0
        have z1 : wz.cell? ⟨gr, 1, none⟩ = some (.int .i64 m.frm) := HBZ.out.cell 1
        have z2 : wz.cell? ⟨gr, 2, none⟩ = some (.int .i64 m.dst) := HBZ.out.cell 2
        have z3 : wz.cell? ⟨gr, 3, none⟩ = some (.int .i64 m.grp) := HBZ.out.cell 3
        have z4 : wz.cell? ⟨gr, 4, none⟩ = some (.int .i64 m.slot) := HBZ.out.cell 4
        have z5 : wz.cell? ⟨gr, 5, none⟩ = some (.int .u64 (m.ballot : Int)) := HBZ.out.cell 5
        have z6 : wz.cell? ⟨gr, 6, none⟩ = some (.string (bstr m.value)) := HBZ.out.cell 6
        have z7 : wz.cell? ⟨gr, 7, none⟩ = some (.slice m.va m.votes.length m.vc) := HBZ.out.cell 7
        refine bodyPost_ret (v := mgv m) ?_ rfl ?_
        · unfold mgv mga
          simp [results, Tryd.results29, go_sem, z0, z1, z2, z3, z4, z5, z6, z7]
        · obtain ⟨q, h1, h2⟩ := HFIN.out
          exact ⟨q, by rw [h1], h2⟩
end Go.Proofs.YtdpjmkgjjhcgeaaDoor
