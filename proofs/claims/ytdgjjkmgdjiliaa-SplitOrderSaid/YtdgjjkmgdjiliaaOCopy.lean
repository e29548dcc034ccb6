/- The document's Copy of an order. Conditions: the order is small. -/
import Derived.Test.YtdgjjkmgdjiliaaOrd
import Derived.Test.YtdgjjkmgdjiliaaCopyA
import Derived.Test.YtdgjjkmgdjiliaaAlike
import Derived.Test.YtdgjjkmgdjiliaaOSame
namespace Go.Proofs.Ytdgjjkmgdjiliaa
open Go.RowKit

/-- orders that are one but for where they lie. -/
structure OAlike (a b : Od) : Prop where
  node : a.node = b.node
  epoch : a.epoch = b.epoch
  seq : a.seq = b.seq
  tr : a.tr = b.tr
  kind : a.t.kind = b.t.kind
  to_ : a.t.to = b.t.to
  reads : a.t.reads = b.t.reads
  writes : a.t.writes = b.t.writes
  ops : Alike a.t.ops b.t.ops
  marks : a.marks = b.marks
theorem Alike.symm {xs ys : List Opn} (h : Alike xs ys) : Alike ys xs := ⟨h.1.symm, fun j x y hx hy => by
  obtain ⟨a, b, c, d⟩ := h.2 j y x hy hx
  exact ⟨a.symm, b.symm, c.symm, d.symm⟩⟩
theorem OAlike.symm {a b : Od} (h : OAlike a b) : OAlike b a := ⟨h.node.symm, h.epoch.symm, h.seq.symm, h.tr.symm, h.kind.symm, h.to_.symm, h.reads.symm, h.writes.symm, h.ops.symm, h.marks.symm⟩
theorem OAlike.small {a b : Od} (h : OAlike a b) (hs : OSmall b) : OSmall a := by
  refine ⟨⟨by rw [h.reads]; exact hs.t.r, by rw [h.writes]; exact hs.t.w, by rw [h.ops.1]; exact hs.t.o, by rw [h.reads]; exact hs.t.rk, by rw [h.writes]; exact hs.t.wk, fun x hx => ?_⟩, by rw [h.marks]; exact hs.m, by rw [h.marks]; exact hs.ks⟩
  obtain ⟨j, hj, rfl⟩ := List.getElem_of_mem hx
  have hj2 : j < b.t.ops.length := by rw [← h.ops.1]; exact hj
  obtain ⟨_, p, q, _⟩ := h.ops.2 j _ _ (List.getElem?_eq_getElem hj) (List.getElem?_eq_getElem hj2)
  rw [p, q]
  exact hs.t.ok _ (List.getElem_mem hj2)
theorem opsSame_iff (xs ys : List Opn) : opsSame xs ys = true ↔ Alike xs ys := by
  constructor
  · intro h
    unfold opsSame at h
    rw [Bool.and_eq_true, decide_eq_true_eq, List.all_eq_true] at h
    refine ⟨h.1, fun j x y hx hy => ?_⟩
    have := h.2 j (List.mem_range.2 (List.getElem?_eq_some_iff.1 hx).1)
    rw [hx, hy] at this
    simp only [opSame, Bool.and_eq_true, decide_eq_true_eq, beq_iff_eq] at this
    exact ⟨this.1.1.1, this.1.1.2, this.2, this.1.2⟩
  · intro h
    refine opsSame_yes h.1 fun j x y hx hy => ?_
    obtain ⟨a, b, c, d⟩ := h.2 j x y hx hy
    simp [opSame, a, b, c, d]
theorem orderSame_iff (a b : Od) : orderSame a b = true ↔ OAlike a b := by
  unfold orderSame tagSame txSame
  simp only [Bool.and_eq_true, decide_eq_true_eq, beq_iff_eq, opsSame_iff, marksSame_iff]
  constructor
  · rintro ⟨⟨h1, h2, h3, h4⟩, ⟨h5, h6, h7, h8, h9⟩, h10⟩
    exact ⟨h1, h2, h3, h4, h5, h6, h7, h8, h9, h10⟩
  · intro h
    exact ⟨⟨h.node, h.epoch, h.seq, h.tr⟩, ⟨h.kind, h.to_, h.reads, h.writes, h.ops⟩, h.marks⟩

theorem Rd.ne_of {w : World} {A : Option Addr} {xs : List Value} {g : Nat} {T : TypeId} {cs : Array Value} (h : Rd w A xs) (hb : Bk w g T cs) (P : Value → Prop) (hP : ∀ v ∈ xs, P v) (hc : ∀ v ∈ cs.toList, ¬ P v) :
    0 < xs.length → ∀ k, ablk A k → k ≠ g := by
  rintro hx k ⟨b, e, rfl⟩ rfl
  obtain ⟨b', o, e', hcell⟩ := h hx
  rw [e] at e'
  injection e' with e'
  subst e'
  have h0 := hcell 0 _ (List.getElem?_eq_getElem hx)
  rw [hb.cell] at h0
  exact hc _ (List.mem_of_getElem? (i := o + 0) (by simpa using h0)) (hP _ (List.getElem_mem hx))

def ozero : Array Value := #[.int .i64 0, .int .u64 0, .int .u64 0, .int .i64 0, .int .i64 0, .slice none 0 0, .slice none 0 0, .slice none 0 0, .int .i64 0, .slice none 0 0]
def isStr (v : Value) : Prop := ∃ s, v = .string s
def isU8 (v : Value) : Prop := ∃ n, v = .int .u8 n
theorem ozero_str : ∀ v ∈ ozero.toList, ¬ isStr v := by
  intro v hv ⟨s, e⟩
  subst e
  simp [ozero] at hv
theorem ozero_u8 : ∀ v ∈ ozero.toList, ¬ isU8 v := by
  intro v hv ⟨s, e⟩
  subst e
  simp [ozero] at hv
theorem sts_str (xs : List Bs) : ∀ v ∈ sts xs, isStr v := by
  intro v hv
  simp only [sts, List.mem_map] at hv
  obtain ⟨x, _, rfl⟩ := hv
  exact ⟨_, rfl⟩
theorem cb_u8 (l : List UInt8) : ∀ v ∈ cb l, isU8 v := by
  intro v hv
  simp only [cb, List.mem_map] at hv
  obtain ⟨x, _, rfl⟩ := hv
  exact ⟨_, rfl⟩

/-- an order copied: alike, in memory of its own. -/
structure OCopied (w w' : World) (a b : Od) : Prop where
  inn : OdIn w' b
  like : OAlike b a
  fr : Fr NoBlk w w'
def OCopyPost (w : World) (a : Od) (e : Ending) (w' : World) : Prop := ∃ b, e = .returned (odv b) ∧ OCopied w w' a b
theorem markInfo : (Try.prog.info? 63).map (fun i => (i.zero, i.size, i.bytes)) = some (some (.agg #[.string ByteArray.empty, .int .i64 0, .int .u64 0]), 3, 32) := by kernel_rfl

theorem OCopied.fin {w w1 w5 wy wz : World} {o : Od} {u : Tx} {g c9' : Nat} {A9 : Option Addr} (ho : OdIn w o) (hF : Fr NoBlk w w1) (hg : w.heap.size ≤ g ∧ g < w1.heap.size) (hb : Bk wy g 38 ozero)
    (hcp : ∃ wa, Fr NoBlk w1 wa ∧ Copied wa w5 o.t u) (hgot : ∃ wb, Fr NoBlk w5 wb ∧ Got wb wy o.marks.length (mksc o.marks) A9 c9') (hz : Fr (fun k => k = g) wy wz) :
    OCopied w wz o ⟨o.node, o.epoch, o.seq, o.tr, u, A9, c9', o.marks⟩ := by
  obtain ⟨wa, ha, hc⟩ := hcp
  obtain ⟨wb, hb5, hG⟩ := hgot
  have h5y : Fr NoBlk w5 wy := hb5.trans hG.fr
  have ht := hc.inn.nofr h5y
  have hsz : w1.heap.size ≤ wa.heap.size := ha.size
  have hszb : w1.heap.size ≤ wb.heap.size := by have := hc.fr.size; have := hb5.size; omega
  refine ⟨⟨⟨?_, ?_, ?_, fun x hx => ⟨⟨?_, (ht.vals x hx).1.2⟩, (ht.vals x hx).2⟩, ht.texts, ht.rl, ht.wl, ht.ol⟩, ?_, ⟨hG.le, hG.max, hG.nil⟩, ho.keys, ho.nums⟩, ⟨rfl, rfl, rfl, rfl, hc.kind, hc.to_, hc.reads, hc.writes, hc.ops, rfl⟩, ?_⟩
  · exact ht.reads.fr' hz (fun hx k hk => ht.reads.ne_of hb isStr (sts_str _) ozero_str hx k hk)
  · exact ht.writes.fr' hz (fun hx k hk => ht.writes.ne_of hb isStr (sts_str _) ozero_str hx k hk)
  · refine ht.ops.fr' hz (fun hx k hk e => ?_)
    obtain ⟨ad, e1, e2⟩ := hk
    have := (own_blk hc.own (k := k) (by rw [e1, ← e2]; rfl)).1
    omega
  · exact (ht.vals x hx).1.1.fr' hz (fun hp k hk => (ht.vals x hx).1.1.ne_of hb isU8 (cb_u8 _) ozero_u8 hp k hk)
  · refine hG.rd.fr' hz (fun hx k hk e => ?_)
    obtain ⟨q, e1, hq⟩ := hG.new (by rw [mksc_len] at hx; omega)
    obtain ⟨ad, e2, e3⟩ := hk
    rw [e1] at e2
    injection e2 with e2
    subst e2
    simp only at e3
    omega
  · exact (hF.trans (ha.trans (hc.fr.trans h5y))).step hz (fun i hi e => by omega)

set_option maxRecDepth 100000 in
set_option maxHeartbeats 20000000 in
theorem ocopy_any (w : World) (o : Od) (ho : OdIn w o) (hs : OSmall o) :
    Calls Try.prog 30 #[odv o] w (OCopyPost w o) := by
  obtain ⟨i0, hi, hz0, hz1, hz2⟩ := info_parts markInfo
  obtain ⟨w1, hw1⟩ : ∃ w1, w1 = (w.alloc (.cells (oda o) 38)).alloc (.cells ozero 38) := ⟨_, rfl⟩
  have HF : Hid (Fr NoBlk w w1) := by
    show Fr _ _ _
    rw [hw1]
    exact ((Fr.refl _ _).alloc _).alloc _
  have HB : Hid (Bk w1 w.heap.size 38 (oda o)) := by
    show Bk _ _ _ _
    rw [hw1]
    exact (Bk.new w _ _).alloc _
  have HB2 : Hid (Bk w1 (w.heap.size + 1) 38 ozero) := by
    show Bk _ _ _ _
    rw [hw1]
    exact Bk.new2 w _ _ _
  have HSZ : Hid (w1.heap.size = w.heap.size + 2) := by
    show _ = _
    rw [hw1]; simp
  have K1 := Lib.hid fun W (hf : Fr NoBlk w W) => copy_anyA W o.t (ho.txn.nofr hf) hs.t
  have HO := Lib.hid ho
  have hmm := hs.m
  have HSF := Lib.hid fun W (hf : Fr NoBlk w1 W) => (HB.out.fr hf (fun h => h)).ord
  clear ho hs
  unfold txv txa at K1
  have HS0 := HSF.out _ (Fr.refl _ _)
  have hb2 := HB2.out
  unfold ozero at hw1
  unfold oda at hw1
  unfold odv oda
  go_enter Try.func30, Try.ntmps30
  go_upto_region 1 with fail
  rw [← hw1]
  clear hw1
  have HS1 := Lib.hid HS0
  obtain ⟨c0, c1, c2, c3, c4, c5, c6, c7, c8, c9⟩ := HS0
  have HL : Hid ((mksc o.marks).length = o.marks.length * 3) := mksc_len _
  have e10 := hb2.free 0
  have x0 : w1.cell? ⟨w.heap.size + 1, 0, none⟩ = some (.int .i64 0) := hb2.cell 0
  have hlt1 : w.heap.size < w1.heap.size := by have := HSZ.out; omega
  have hlt2 : w.heap.size + 1 < w1.heap.size := by have := HSZ.out; omega
  clear e10 x0 hb2 c0 c1 c2 c3 c4 c5 c6 c7 c8 c9 HS1
  refine wp_region_held_drew (S := fun w' => w'.cell? ⟨w.heap.size, 0, none⟩ = some (.int .i64 o.node) ∧ w'.cell? ⟨w.heap.size, 1, none⟩ = some (.int .u64 (o.epoch : Int)) ∧ w'.cell? ⟨w.heap.size, 2, none⟩ = some (.int .u64 (o.seq : Int)) ∧ w'.cell? ⟨w.heap.size, 3, none⟩ = some (.int .i64 o.tr) ∧ w'.cell? ⟨w.heap.size, 4, none⟩ = some (.int .i64 o.t.kind) ∧ w'.cell? ⟨w.heap.size, 5, none⟩ = some (.slice o.t.ra o.t.reads.length o.t.rc) ∧ w'.cell? ⟨w.heap.size, 6, none⟩ = some (.slice o.t.wa o.t.writes.length o.t.wc) ∧ w'.cell? ⟨w.heap.size, 7, none⟩ = some (.slice o.t.oa o.t.ops.length o.t.oc) ∧ w'.cell? ⟨w.heap.size, 8, none⟩ = some (.int .i64 o.t.to) ∧ w'.cell? ⟨w.heap.size, 9, none⟩ = some (.slice o.ma o.marks.length o.mc)) (by kernel_rfl) (HSF.out _ ((Fr.refl _ _).drew)) (fun hHeld => ?_)
  refine wpAnyH_take (i := 0) (oi := ⟨some 3, _, _, _, _, _⟩) (v := ?_) rfl (by kernel_rfl) (by kernel_rfl) (by kernel_rfl) (fun _ _ _ h => h) (Or.inl ⟨by rfl, ?_⟩) (by assumption) ?_
  rotate_left 1
  · (intro w hSw; (try dsimp only at hSw); go_simp) <;> (with_reducible rfl)
  try simp only [Act.put, List.setIfInBounds_toArray, List.set_cons_zero, List.set_cons_succ]
  refine wpAnyH_take (i := 1) (oi := ⟨some 4, _, _, _, _, _⟩) (v := ?_) rfl (by kernel_rfl) (by kernel_rfl) (by kernel_rfl) (fun _ _ _ h => h) (Or.inl ⟨by rfl, ?_⟩) (by assumption) ?_
  rotate_left 1
  · (intro w hSw; (try dsimp only at hSw); go_simp) <;> (with_reducible rfl)
  try simp only [Act.put, List.setIfInBounds_toArray, List.set_cons_zero, List.set_cons_succ]
  refine wpAnyH_take (i := 2) (oi := ⟨some 5, _, _, _, _, _⟩) (v := ?_) rfl (by kernel_rfl) (by kernel_rfl) (by kernel_rfl) (fun _ _ _ h => h) (Or.inl ⟨by rfl, ?_⟩) (by assumption) ?_
  rotate_left 1
  · (intro w hSw; (try dsimp only at hSw); go_simp) <;> (with_reducible rfl)
  try simp only [Act.put, List.setIfInBounds_toArray, List.set_cons_zero, List.set_cons_succ]
  refine wpAnyH_take (i := 3) (oi := ⟨some 6, _, _, _, _, _⟩) (v := ?_) rfl (by kernel_rfl) (by kernel_rfl) (by kernel_rfl) (fun _ _ _ h => h) (Or.inl ⟨by rfl, ?_⟩) (by assumption) ?_
  rotate_left 1
  · (intro w hSw; (try dsimp only at hSw); go_simp) <;> (with_reducible rfl)
  try simp only [Act.put, List.setIfInBounds_toArray, List.set_cons_zero, List.set_cons_succ]
  refine wpAnyH_take (i := 6) (oi := ⟨some 9, _, _, _, _, _⟩) (v := ?_) rfl (by kernel_rfl) (by kernel_rfl) (by kernel_rfl) (fun _ _ _ h => h) (Or.inl ⟨by rfl, ?_⟩) (by assumption) ?_
  rotate_left 1
  · (intro w hSw; (try dsimp only at hSw); go_simp) <;> (with_reducible rfl)
  try simp only [Act.put, List.setIfInBounds_toArray, List.set_cons_zero, List.set_cons_succ]
  refine wpAnyH_take (i := 7) (oi := ⟨some 10, _, _, _, _, _⟩) (v := ?_) rfl (by kernel_rfl) (by kernel_rfl) (by kernel_rfl) (fun _ _ _ h => h) (Or.inl ⟨by rfl, ?_⟩) (by assumption) ?_
  rotate_left 1
  · (intro w hSw; (try dsimp only at hSw); go_simp) <;> (with_reducible rfl)
  try simp only [Act.put, List.setIfInBounds_toArray, List.set_cons_zero, List.set_cons_succ]
  refine wpAnyH_ready (rs := [4, 5]) (by kernel_rfl) (by simp) ?_
  refine AllReadyH.cons (o := ⟨some 7, _, _, _, _, _⟩) rfl (fun K hK => ?_) (AllReadyH.cons (o := ⟨some 8, _, _, _, _, _⟩) rfl (fun K hK => ?_) AllReadyH.nil)
  · go_simp
    go_at_call 51
    refine (K1.out _ (HF.out.drew)).mono ?_
    rintro e w5 ⟨u, rfl, hc, _⟩
    have HC5 : Hid (∃ wa, Fr NoBlk w1 wa ∧ Copied wa w5 o.t u) := ⟨_, (Fr.refl _ _).drew, hc⟩
    have HF5 : Hid (Fr NoBlk w1 w5) := by
      obtain ⟨wa, h1, h2⟩ := HC5.out
      exact h1.trans h2.fr
    have hS5 := HSF.out _ HF5.out
    clear hc
    unfold txv txa
    clear hHeld
    refine hK.out _ _ ?_ (fun hHeld => ?_)
    · exact hS5
    clear hK K
    try simp only [Act.put, List.setIfInBounds_toArray, List.set_cons_zero, List.set_cons_succ]
    refine wpAnyH_ready (rs := [5]) (by kernel_rfl) (by simp) ?_
    refine AllReadyH.cons (o := ⟨some 8, _, _, _, _, _⟩) rfl (fun K hK => ?_) AllReadyH.nil
    go_simp
    clear hHeld
    refine hK.out _ _ ?_ (fun hHeld => ?_)
    · exact HSF.out _ (HF5.out.alloc _)
    clear hK K
    try simp only [Act.put, List.setIfInBounds_toArray, List.set_cons_zero, List.set_cons_succ]
    refine wpAnyH_ready (rs := [8]) (by kernel_rfl) (by simp) ?_
    refine AllReadyH.cons (o := ⟨some 11, _, _, _, _, _⟩) rfl (fun K hK => ?_) AllReadyH.nil
    refine step_appE rfl (.tmp 8) (.tmp 10) 36 rfl 63 i0 _ 3 32 Try.underlying36 hi hz0 hz1 hz2 rfl (by decide) ⟨w5.heap.size, 0, none⟩ rfl o.ma o.mc o.marks.length (mksc o.marks) rfl HL.out (HO.out.marks.nofr (HF.out.trans (HF5.out.trans ((Fr.refl _ _).alloc _)))) (mksc_one _) HO.out.ml.2.2 (by unfold maxLen; omega) (by omega) ?_
    intro A9 c9' w9 hg9
    have HG9 : Hid (∃ wb, Fr NoBlk w5 wb ∧ Got wb w9 o.marks.length (mksc o.marks) A9 c9') := ⟨_, (Fr.refl _ _).alloc _, hg9⟩
    have HF9 : Hid (Fr NoBlk w1 w9) := by
      obtain ⟨wb, h1, h2⟩ := HG9.out
      exact HF5.out.trans (h1.trans h2.fr)
    have hS9 := HSF.out _ HF9.out
    clear hg9
    clear hHeld
    refine hK.out _ _ ?_ (fun hHeld => ?_)
    · exact hS9
    clear hK K
    try simp only [Act.put, List.setIfInBounds_toArray, List.set_cons_zero, List.set_cons_succ]
    refine wpAnyH_take (i := 9) (oi := ⟨some 12, _, _, _, _, _⟩) (v := ?_) rfl (by kernel_rfl) (by kernel_rfl) (by kernel_rfl) (fun _ _ _ h => h) (Or.inl ⟨by rfl, ?_⟩) (by assumption) ?_
    rotate_left 1
    · (intro w hSw; (try dsimp only at hSw); go_simp) <;> (with_reducible rfl)
    try simp only [Act.put, List.setIfInBounds_toArray, List.set_cons_zero, List.set_cons_succ]
    have hb9 := HB2.out.fr HF9.out (fun h => h)
    have hbo := HB.out.fr HF9.out (fun h => h)
    clear hS9 hS5
    have q0 : w9.cell? ⟨w.heap.size + 1, 0, none⟩ = some (.int .i64 0) := hb9.cell 0
    have f0 := hb9.free 0
    have q1 : w9.cell? ⟨w.heap.size + 1, 1, none⟩ = some (.int .u64 0) := hb9.cell 1
    have f1 := hb9.free 1
    have q2 : w9.cell? ⟨w.heap.size + 1, 2, none⟩ = some (.int .u64 0) := hb9.cell 2
    have f2 := hb9.free 2
    have q3 : w9.cell? ⟨w.heap.size + 1, 3, none⟩ = some (.int .i64 0) := hb9.cell 3
    have f3 := hb9.free 3
    have q4 : w9.cell? ⟨w.heap.size + 1, 4, none⟩ = some (.int .i64 0) := hb9.cell 4
    have f4 := hb9.free 4
    have q5 : w9.cell? ⟨w.heap.size + 1, 5, none⟩ = some (.slice none 0 0) := hb9.cell 5
    have f5 := hb9.free 5
    have q6 : w9.cell? ⟨w.heap.size + 1, 6, none⟩ = some (.slice none 0 0) := hb9.cell 6
    have f6 := hb9.free 6
    have q7 : w9.cell? ⟨w.heap.size + 1, 7, none⟩ = some (.slice none 0 0) := hb9.cell 7
    have f7 := hb9.free 7
    have q8 : w9.cell? ⟨w.heap.size + 1, 8, none⟩ = some (.int .i64 0) := hb9.cell 8
    have f8 := hb9.free 8
    have q9 : w9.cell? ⟨w.heap.size + 1, 9, none⟩ = some (.slice none 0 0) := hb9.cell 9
    have f9 := hb9.free 9
    obtain ⟨wz, hwz⟩ : ∃ wz, wz = ((((((((((w9.setCell ⟨w.heap.size + 1, 0, none⟩ (.int .i64 o.node)).setCell ⟨w.heap.size + 1, 1, none⟩ (.int .u64 (o.epoch : Int))).setCell ⟨w.heap.size + 1, 2, none⟩ (.int .u64 (o.seq : Int))).setCell ⟨w.heap.size + 1, 3, none⟩ (.int .i64 o.tr)).setCell ⟨w.heap.size + 1, 4, none⟩ (.int .i64 u.kind)).setCell ⟨w.heap.size + 1, 5, none⟩ (.slice u.ra u.reads.length u.rc)).setCell ⟨w.heap.size + 1, 6, none⟩ (.slice u.wa u.writes.length u.wc)).setCell ⟨w.heap.size + 1, 7, none⟩ (.slice u.oa u.ops.length u.oc)).setCell ⟨w.heap.size + 1, 8, none⟩ (.int .i64 u.to)).setCell ⟨w.heap.size + 1, 9, none⟩ (.slice A9 o.marks.length c9')) := ⟨_, rfl⟩
    have HX : Hid (Fr (fun k => k = w.heap.size + 1) w9 wz) := by
      show Fr _ _ _
      rw [hwz]
      exact (((((((((((Fr.refl (fun k => k = w.heap.size + 1) w9).setCell (p := ⟨w.heap.size + 1, 0, none⟩) (fun _ => rfl) _).setCell (p := ⟨w.heap.size + 1, 1, none⟩) (fun _ => rfl) _).setCell (p := ⟨w.heap.size + 1, 2, none⟩) (fun _ => rfl) _).setCell (p := ⟨w.heap.size + 1, 3, none⟩) (fun _ => rfl) _).setCell (p := ⟨w.heap.size + 1, 4, none⟩) (fun _ => rfl) _).setCell (p := ⟨w.heap.size + 1, 5, none⟩) (fun _ => rfl) _).setCell (p := ⟨w.heap.size + 1, 6, none⟩) (fun _ => rfl) _).setCell (p := ⟨w.heap.size + 1, 7, none⟩) (fun _ => rfl) _).setCell (p := ⟨w.heap.size + 1, 8, none⟩) (fun _ => rfl) _).setCell (p := ⟨w.heap.size + 1, 9, none⟩) (fun _ => rfl) _)
    have HBO := Lib.hid (hbo.fr HX.out (by omega))
    have HB9 := Lib.hid hb9
    have HBZ : Hid (Bk wz (w.heap.size + 1) 38 #[.int .i64 o.node, .int .u64 (o.epoch : Int), .int .u64 (o.seq : Int), .int .i64 o.tr, .int .i64 u.kind, .slice u.ra u.reads.length u.rc, .slice u.wa u.writes.length u.wc, .slice u.oa u.ops.length u.oc, .int .i64 u.to, .slice A9 o.marks.length c9']) := by
      show Bk _ _ _ _
      rw [hwz]
      refine Bk.cast ((((((((((HB9.out.put 0 (.int .i64 o.node)).put 1 (.int .u64 (o.epoch : Int))).put 2 (.int .u64 (o.seq : Int))).put 3 (.int .i64 o.tr)).put 4 (.int .i64 u.kind)).put 5 (.slice u.ra u.reads.length u.rc)).put 6 (.slice u.wa u.writes.length u.wc)).put 7 (.slice u.oa u.ops.length u.oc)).put 8 (.int .i64 u.to)).put 9 (.slice A9 o.marks.length c9')) ?_
      unfold ozero
      simp only [List.setIfInBounds_toArray, List.set_cons_zero, List.set_cons_succ]
    have HWZ := Lib.hid hwz
    clear hb9 hbo hwz
    refine wpAnyH_ready (rs := [10]) (by kernel_rfl) (by simp) ?_
    refine AllReadyH.cons (o := ⟨none, _, _, _, _, _⟩) rfl (fun K hK => ?_) AllReadyH.nil
    go_simp
    rw [← HWZ.out]
    clear hHeld
    refine hK.out _ _ ?_ (fun hHeld => ?_)
    · exact HBO.out.ord
    clear hK K
    try simp only [Act.put, List.setIfInBounds_toArray, List.set_cons_zero, List.set_cons_succ]
    refine wpAnyH_done (by kernel_rfl) ?_ _
    go_wp2_with fail
    have z0 : wz.cell? ⟨w.heap.size + 1, 0, none⟩ = some (.int .i64 o.node) := HBZ.out.cell 0
    have z1 : wz.cell? ⟨w.heap.size + 1, 1, none⟩ = some (.int .u64 (o.epoch : Int)) := HBZ.out.cell 1
    have z2 : wz.cell? ⟨w.heap.size + 1, 2, none⟩ = some (.int .u64 (o.seq : Int)) := HBZ.out.cell 2
    have z3 : wz.cell? ⟨w.heap.size + 1, 3, none⟩ = some (.int .i64 o.tr) := HBZ.out.cell 3
    have z4 : wz.cell? ⟨w.heap.size + 1, 4, none⟩ = some (.int .i64 u.kind) := HBZ.out.cell 4
    have z5 : wz.cell? ⟨w.heap.size + 1, 5, none⟩ = some (.slice u.ra u.reads.length u.rc) := HBZ.out.cell 5
    have z6 : wz.cell? ⟨w.heap.size + 1, 6, none⟩ = some (.slice u.wa u.writes.length u.wc) := HBZ.out.cell 6
    have z7 : wz.cell? ⟨w.heap.size + 1, 7, none⟩ = some (.slice u.oa u.ops.length u.oc) := HBZ.out.cell 7
    have z8 : wz.cell? ⟨w.heap.size + 1, 8, none⟩ = some (.int .i64 u.to) := HBZ.out.cell 8
    have z9 : wz.cell? ⟨w.heap.size + 1, 9, none⟩ = some (.slice A9 o.marks.length c9') := HBZ.out.cell 9
    have hfin := OCopied.fin (c9' := c9') (A9 := A9) HO.out HF.out (g := w.heap.size + 1) (by have := HSZ.out; omega) HB9.out HC5.out HG9.out HX.out
    clear HX HBO HBZ HB9
    refine bodyPost_ret (v := odv ⟨o.node, o.epoch, o.seq, o.tr, u, A9, c9', o.marks⟩) ?_ rfl ⟨_, rfl, hfin⟩
    unfold odv oda
    simp [results, Try.results30, go_sem, z0, z1, z2, z3, z4, z5, z6, z7, z8, z9]
  · go_simp
    clear hHeld
    refine hK.out _ _ ?_ (fun hHeld => ?_)
    · exact HSF.out _ (((Fr.refl _ _).alloc _).drew)
    clear hK K
    try simp only [Act.put, List.setIfInBounds_toArray, List.set_cons_zero, List.set_cons_succ]
    refine wpAnyH_ready (rs := [4]) (by kernel_rfl) (by simp) ?_
    refine AllReadyH.cons (o := ⟨some 7, _, _, _, _, _⟩) rfl (fun K hK => ?_) AllReadyH.nil
    go_simp
    go_at_call 51
    refine (K1.out _ ((HF.out.alloc _).drew)).mono ?_
    rintro e w5 ⟨u, rfl, hc, _⟩
    have HC5 : Hid (∃ wa, Fr NoBlk w1 wa ∧ Copied wa w5 o.t u) := ⟨_, ((Fr.refl _ _).alloc _).drew, hc⟩
    have HF5 : Hid (Fr NoBlk w1 w5) := by
      obtain ⟨wa, h1, h2⟩ := HC5.out
      exact h1.trans h2.fr
    have hS5 := HSF.out _ HF5.out
    clear hc
    unfold txv txa
    clear hHeld
    refine hK.out _ _ ?_ (fun hHeld => ?_)
    · exact hS5
    clear hK K
    try simp only [Act.put, List.setIfInBounds_toArray, List.set_cons_zero, List.set_cons_succ]
    refine wpAnyH_ready (rs := [8]) (by kernel_rfl) (by simp) ?_
    refine AllReadyH.cons (o := ⟨some 11, _, _, _, _, _⟩) rfl (fun K hK => ?_) AllReadyH.nil
    refine step_appE rfl (.tmp 8) (.tmp 10) 36 rfl 63 i0 _ 3 32 Try.underlying36 hi hz0 hz1 hz2 rfl (by decide) ⟨w1.heap.size, 0, none⟩ rfl o.ma o.mc o.marks.length (mksc o.marks) rfl HL.out (HO.out.marks.nofr (HF.out.trans (HF5.out.trans (Fr.refl _ _)))) (mksc_one _) HO.out.ml.2.2 (by unfold maxLen; omega) (by omega) ?_
    intro A9 c9' w9 hg9
    have HG9 : Hid (∃ wb, Fr NoBlk w5 wb ∧ Got wb w9 o.marks.length (mksc o.marks) A9 c9') := ⟨_, Fr.refl _ _, hg9⟩
    have HF9 : Hid (Fr NoBlk w1 w9) := by
      obtain ⟨wb, h1, h2⟩ := HG9.out
      exact HF5.out.trans (h1.trans h2.fr)
    have hS9 := HSF.out _ HF9.out
    clear hg9
    clear hHeld
    refine hK.out _ _ ?_ (fun hHeld => ?_)
    · exact hS9
    clear hK K
    try simp only [Act.put, List.setIfInBounds_toArray, List.set_cons_zero, List.set_cons_succ]
    refine wpAnyH_take (i := 9) (oi := ⟨some 12, _, _, _, _, _⟩) (v := ?_) rfl (by kernel_rfl) (by kernel_rfl) (by kernel_rfl) (fun _ _ _ h => h) (Or.inl ⟨by rfl, ?_⟩) (by assumption) ?_
    rotate_left 1
    · (intro w hSw; (try dsimp only at hSw); go_simp) <;> (with_reducible rfl)
    try simp only [Act.put, List.setIfInBounds_toArray, List.set_cons_zero, List.set_cons_succ]
    have hb9 := HB2.out.fr HF9.out (fun h => h)
    have hbo := HB.out.fr HF9.out (fun h => h)
    clear hS9 hS5
    have q0 : w9.cell? ⟨w.heap.size + 1, 0, none⟩ = some (.int .i64 0) := hb9.cell 0
    have f0 := hb9.free 0
    have q1 : w9.cell? ⟨w.heap.size + 1, 1, none⟩ = some (.int .u64 0) := hb9.cell 1
    have f1 := hb9.free 1
    have q2 : w9.cell? ⟨w.heap.size + 1, 2, none⟩ = some (.int .u64 0) := hb9.cell 2
    have f2 := hb9.free 2
    have q3 : w9.cell? ⟨w.heap.size + 1, 3, none⟩ = some (.int .i64 0) := hb9.cell 3
    have f3 := hb9.free 3
    have q4 : w9.cell? ⟨w.heap.size + 1, 4, none⟩ = some (.int .i64 0) := hb9.cell 4
    have f4 := hb9.free 4
    have q5 : w9.cell? ⟨w.heap.size + 1, 5, none⟩ = some (.slice none 0 0) := hb9.cell 5
    have f5 := hb9.free 5
    have q6 : w9.cell? ⟨w.heap.size + 1, 6, none⟩ = some (.slice none 0 0) := hb9.cell 6
    have f6 := hb9.free 6
    have q7 : w9.cell? ⟨w.heap.size + 1, 7, none⟩ = some (.slice none 0 0) := hb9.cell 7
    have f7 := hb9.free 7
    have q8 : w9.cell? ⟨w.heap.size + 1, 8, none⟩ = some (.int .i64 0) := hb9.cell 8
    have f8 := hb9.free 8
    have q9 : w9.cell? ⟨w.heap.size + 1, 9, none⟩ = some (.slice none 0 0) := hb9.cell 9
    have f9 := hb9.free 9
    obtain ⟨wz, hwz⟩ : ∃ wz, wz = ((((((((((w9.setCell ⟨w.heap.size + 1, 0, none⟩ (.int .i64 o.node)).setCell ⟨w.heap.size + 1, 1, none⟩ (.int .u64 (o.epoch : Int))).setCell ⟨w.heap.size + 1, 2, none⟩ (.int .u64 (o.seq : Int))).setCell ⟨w.heap.size + 1, 3, none⟩ (.int .i64 o.tr)).setCell ⟨w.heap.size + 1, 4, none⟩ (.int .i64 u.kind)).setCell ⟨w.heap.size + 1, 5, none⟩ (.slice u.ra u.reads.length u.rc)).setCell ⟨w.heap.size + 1, 6, none⟩ (.slice u.wa u.writes.length u.wc)).setCell ⟨w.heap.size + 1, 7, none⟩ (.slice u.oa u.ops.length u.oc)).setCell ⟨w.heap.size + 1, 8, none⟩ (.int .i64 u.to)).setCell ⟨w.heap.size + 1, 9, none⟩ (.slice A9 o.marks.length c9')) := ⟨_, rfl⟩
    have HX : Hid (Fr (fun k => k = w.heap.size + 1) w9 wz) := by
      show Fr _ _ _
      rw [hwz]
      exact (((((((((((Fr.refl (fun k => k = w.heap.size + 1) w9).setCell (p := ⟨w.heap.size + 1, 0, none⟩) (fun _ => rfl) _).setCell (p := ⟨w.heap.size + 1, 1, none⟩) (fun _ => rfl) _).setCell (p := ⟨w.heap.size + 1, 2, none⟩) (fun _ => rfl) _).setCell (p := ⟨w.heap.size + 1, 3, none⟩) (fun _ => rfl) _).setCell (p := ⟨w.heap.size + 1, 4, none⟩) (fun _ => rfl) _).setCell (p := ⟨w.heap.size + 1, 5, none⟩) (fun _ => rfl) _).setCell (p := ⟨w.heap.size + 1, 6, none⟩) (fun _ => rfl) _).setCell (p := ⟨w.heap.size + 1, 7, none⟩) (fun _ => rfl) _).setCell (p := ⟨w.heap.size + 1, 8, none⟩) (fun _ => rfl) _).setCell (p := ⟨w.heap.size + 1, 9, none⟩) (fun _ => rfl) _)
    have HBO := Lib.hid (hbo.fr HX.out (by omega))
    have HB9 := Lib.hid hb9
    have HBZ : Hid (Bk wz (w.heap.size + 1) 38 #[.int .i64 o.node, .int .u64 (o.epoch : Int), .int .u64 (o.seq : Int), .int .i64 o.tr, .int .i64 u.kind, .slice u.ra u.reads.length u.rc, .slice u.wa u.writes.length u.wc, .slice u.oa u.ops.length u.oc, .int .i64 u.to, .slice A9 o.marks.length c9']) := by
      show Bk _ _ _ _
      rw [hwz]
      refine Bk.cast ((((((((((HB9.out.put 0 (.int .i64 o.node)).put 1 (.int .u64 (o.epoch : Int))).put 2 (.int .u64 (o.seq : Int))).put 3 (.int .i64 o.tr)).put 4 (.int .i64 u.kind)).put 5 (.slice u.ra u.reads.length u.rc)).put 6 (.slice u.wa u.writes.length u.wc)).put 7 (.slice u.oa u.ops.length u.oc)).put 8 (.int .i64 u.to)).put 9 (.slice A9 o.marks.length c9')) ?_
      unfold ozero
      simp only [List.setIfInBounds_toArray, List.set_cons_zero, List.set_cons_succ]
    have HWZ := Lib.hid hwz
    clear hb9 hbo hwz
    refine wpAnyH_ready (rs := [10]) (by kernel_rfl) (by simp) ?_
    refine AllReadyH.cons (o := ⟨none, _, _, _, _, _⟩) rfl (fun K hK => ?_) AllReadyH.nil
    go_simp
    rw [← HWZ.out]
    clear hHeld
    refine hK.out _ _ ?_ (fun hHeld => ?_)
    · exact HBO.out.ord
    clear hK K
    try simp only [Act.put, List.setIfInBounds_toArray, List.set_cons_zero, List.set_cons_succ]
    refine wpAnyH_done (by kernel_rfl) ?_ _
    go_wp2_with fail
    have z0 : wz.cell? ⟨w.heap.size + 1, 0, none⟩ = some (.int .i64 o.node) := HBZ.out.cell 0
    have z1 : wz.cell? ⟨w.heap.size + 1, 1, none⟩ = some (.int .u64 (o.epoch : Int)) := HBZ.out.cell 1
    have z2 : wz.cell? ⟨w.heap.size + 1, 2, none⟩ = some (.int .u64 (o.seq : Int)) := HBZ.out.cell 2
    have z3 : wz.cell? ⟨w.heap.size + 1, 3, none⟩ = some (.int .i64 o.tr) := HBZ.out.cell 3
    have z4 : wz.cell? ⟨w.heap.size + 1, 4, none⟩ = some (.int .i64 u.kind) := HBZ.out.cell 4
    have z5 : wz.cell? ⟨w.heap.size + 1, 5, none⟩ = some (.slice u.ra u.reads.length u.rc) := HBZ.out.cell 5
    have z6 : wz.cell? ⟨w.heap.size + 1, 6, none⟩ = some (.slice u.wa u.writes.length u.wc) := HBZ.out.cell 6
    have z7 : wz.cell? ⟨w.heap.size + 1, 7, none⟩ = some (.slice u.oa u.ops.length u.oc) := HBZ.out.cell 7
    have z8 : wz.cell? ⟨w.heap.size + 1, 8, none⟩ = some (.int .i64 u.to) := HBZ.out.cell 8
    have z9 : wz.cell? ⟨w.heap.size + 1, 9, none⟩ = some (.slice A9 o.marks.length c9') := HBZ.out.cell 9
    have hfin := OCopied.fin (c9' := c9') (A9 := A9) HO.out HF.out (g := w.heap.size + 1) (by have := HSZ.out; omega) HB9.out HC5.out HG9.out HX.out
    clear HX HBO HBZ HB9
    refine bodyPost_ret (v := odv ⟨o.node, o.epoch, o.seq, o.tr, u, A9, c9', o.marks⟩) ?_ rfl ⟨_, rfl, hfin⟩
    unfold odv oda
    simp [results, Try.results30, go_sem, z0, z1, z2, z3, z4, z5, z6, z7, z8, z9]
end Go.Proofs.Ytdgjjkmgdjiliaa
