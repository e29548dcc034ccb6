/- From of the program's Chosen at string: the values known from a place on, in new memory. No condition but numbers of type int. -/
import Derived.Test.YtpldfdeikcaenaaLenS
namespace Go.Proofs.Ytpldfdeikcaenaa
open Go.RowKit Go.Shelf Go.Maps
attribute [local go_sem] Oper.semAt_some

section
variable {α : Type}
def seqN (m : Int → Option α) : Nat → Int → List (Int × α)
  | 0, _ => []
  | n + 1, a => match m a with
    | none => []
    | some v => (a, v) :: seqN m n (a + 1)
theorem seqN_told (m : Int → Option α) (n : Nat) : ∀ a, Told m a (seqN m n a) ∧ ((seqN m n a).length = n ∨ m (a + (seqN m n a).length) = none) := by
  induction n with
  | zero => exact fun a => ⟨Told.nil _ _, .inl rfl⟩
  | succ n ih =>
    intro a
    unfold seqN
    split
    · rename_i h
      exact ⟨Told.nil _ _, .inr (by simpa using h)⟩
    · rename_i v h
      obtain ⟨h1, h2⟩ := ih (a + 1)
      refine ⟨fun k p hp => ?_, ?_⟩
      · cases k with
        | zero => simp only [List.getElem?_cons_zero, Option.some.injEq] at hp; subst hp; exact ⟨by simp, by simpa using h⟩
        | succ k =>
          rw [List.getElem?_cons_succ] at hp
          have := h1 k p hp
          rw [show a + 1 + (k : Int) = a + ((k + 1 : Nat) : Int) by omega] at this
          exact this
      · rw [List.length_cons]
        rcases h2 with h2 | h2
        · exact .inl (by omega)
        · refine .inr ?_
          rw [← h2]
          congr 1
          omega
def seqM (m : Int → Option α) (a : Int) : List (Int × α) := seqN m 65 a
def seqV (m : Int → Option α) (a : Int) : List α := (seqM m a).map (·.2)
theorem seqM_whole {m : Int → Option α} (hd : Dom m) (a : Int) : Whole m a (seqM m a) := by
  obtain ⟨h1, h2⟩ := seqN_told m 65 a
  refine ⟨h1, h2.resolve_left fun e => ?_⟩
  have := (h1.len hd).1
  omega
theorem Whole.seq {m : Int → Option α} (hd : Dom m) {a : Int} {L : List (Int × α)} (h : Whole m a L) : L = seqM m a := h.uniq (seqM_whole hd a)
theorem Told.seq {m : Int → Option α} (hd : Dom m) {a : Int} {L : List (Int × α)} (h : Told m a L) : L = (seqM m a).take L.length := by
  have hw := seqM_whole hd a
  have hle : L.length ≤ (seqM m a).length := by
    rcases Nat.lt_or_ge (seqM m a).length L.length with hl | hl
    · have := (h _ _ (List.getElem?_eq_getElem hl)).2
      rw [hw.2] at this
      cases this
    · exact hl
  apply List.ext_getElem?
  intro i
  by_cases hi : i < L.length
  · rw [List.getElem?_take_of_lt hi]
    have h1 := h i _ (List.getElem?_eq_getElem hi)
    have h2 := hw.1 i _ (List.getElem?_eq_getElem (by omega))
    rw [List.getElem?_eq_getElem hi, List.getElem?_eq_getElem (by omega)]
    congr 1
    refine Prod.ext (h1.1.trans h2.1.symm) ?_
    have := h1.2.symm.trans h2.2
    injection this
  · rw [List.getElem?_eq_none (by omega), List.getElem?_eq_none (by rw [List.length_take]; omega)]
end
/-- append to a row of the call's own inside a fence. -/
theorem wpListIn_app {F : Fence} {nF : Nat} {P : Program} {w : World} {ops : Array Oper} {rest : List Oper} {o : Oper} {a : Act} {Q : Exit → Act → World → Prop} (hgd : o.guard = none) (s x : Operand) (t : TypeId)
    (ho : o.op = .call { callee := .builtin .append, args := #[s, x], argTypes := #[t, t] })
    (base : Nat) (e : TypeId) (i : TypeInfo) (z : Value) (bytes : Nat) (ht : P.underlying t = some (.slice e)) (hi : P.info? e = some i) (hz : i.zero = some z)
    (hsize : i.size = 1) (hby : i.bytes = bytes) (hzs : z.cells.size = 1)
    (v : Value) (n : Nat) (xs : List Value) (hs : a.eval s = v) (hown : w.ownsRow base e 1 v n xs)
    (A : Option Addr) (c m : Nat) (news : List Value) (hx : a.eval x = .slice A m c) (hm : news.length = m) (hr : Rd w A news) (h1 : ∀ u ∈ news, u.oneCell' = true)
    (hA : A = none → c = 0)
    (h63 : n + m ≤ maxLen) (hbytes : (n + m) * bytes ≤ 140737488355328) (hbase : base ≤ w.heap.size)
    (h : ∀ v' w', w'.ownsRow base e 1 v' (n + m) (xs ++ news) → w.grownBy w' v.ownBlock → (v' = .slice none 0 0 ↔ v = .slice none 0 0 ∧ m = 0) → (v'.ownBlock = v.ownBlock ∨ v'.ownBlock = some w.heap.size) →
      wpListIn F nF P ops Q rest (a.put o.dst v') w') : wpListIn F nF P ops Q (o :: rest) a w :=
  wpListIn_plain hgd fun K hK => by
    obtain ⟨v', w', hrun, h2, h3, h4, h5⟩ := run_app (P := P) w base t o.type e i z bytes ht hi hz hsize hby hzs v n xs hown A c m news hm hr h1 hA h63 hbytes hbase
    unfold Oper.wpIn
    refine ⟨by simp [Oper.about, ho, resolve, Target.leads, Sem.run_pure], ?_⟩
    rw [Oper.semAt_plain F _ _ (by rw [ho]; intro c hc'; cases hc')]
    simp [execOp, ho, resolve, invoke, builtin, hs, hx, hrun, Result.andThen]
    exact hK _ _ (h v' w' h2 h3 h4 h5)

theorem elemInfoS : (Try.prog.info? 9).map (fun i => (i.zero, i.size, i.bytes)) = some (some (Value.string { data := #[] }), 1, 16) := by kernel_rfl

/-- between two rounds: the values so far lie behind the box gm + 1, in memory made since the boxes; how many are wanted in the box gm. -/
structure FromSAt (w : World) (gm : Nat) (most : Int) (L : List ByteArray) (W : World) : Prop where
  box : ∃ v, Bk W (gm + 1) 37 #[v] ∧ W.ownsRow (gm + 4) 9 1 v L.length (L.map evS)
  bm : Bk W gm 3 #[.int .i64 most]
  fr : Fr NoBlk w W
  few : L.length ≤ most.toNat
  sz : gm + 4 ≤ W.heap.size
theorem FromSAt.others {w W W' : World} {gm : Nat} {most : Int} {L : List ByteArray} {row : Option Nat} (h : FromSAt w gm most L W) (hg : W.grownBy W' row) (hr : ∀ r, row = some r → w.heap.size ≤ r ∧ ∃ o : Obj, W.heap[r]? = some o ∧ o.isCells = false) : FromSAt w gm most L W' := by
  obtain ⟨v, hb, ho⟩ := h.box
  exact ⟨⟨v, hb.others hg fun r e => (hr r e).2, own_others ho hg fun r e => (hr r e).2⟩, h.bm.others hg fun r e => (hr r e).2, h.fr.grown hg (fun r e hl => by have := (hr r e).1; omega), h.few, Nat.le_trans h.sz hg.size⟩
theorem FromSAt.next {w W W2 : World} {gm : Nat} {most : Int} {L : List ByteArray} (h : FromSAt w gm most L W) {v v2 : Value} (hb : Bk W (gm + 1) 37 #[v]) {o : Obj} {nn : Nat} (hnn : nn = L.length) (ho : (W.alloc o).ownsRow (gm + 4) 9 1 v nn (L.map evS)) (u : ByteArray)
    (ho2 : W2.ownsRow (gm + 4) 9 1 v2 (nn + 1) (L.map evS ++ [evS u])) (hg : (W.alloc o).grownBy W2 v.ownBlock) (hm : ¬ most ≤ (nn : Int)) (hgm : gm = w.heap.size) :
    KeepsOthers W (W2.setCell ⟨gm + 1, 0, none⟩ v2) ∧ Keep (fun i => i < w.heap.size ∨ i = gm + 1 + 1 ∨ i = gm + 1 + 1 + 1) W (W2.setCell ⟨gm + 1, 0, none⟩ v2) ∧ FromSAt w gm most (L ++ [u]) (W2.setCell ⟨gm + 1, 0, none⟩ v2) := by
  subst hnn
  have hlow : ∀ i, some i = v.ownBlock → gm + 4 ≤ i := fun i e => (ho.lt i e.symm).1
  have hlow2 : ∀ i, v2.ownBlock = some i → gm + 4 ≤ i := fun i e => (ho2.lt i e).1
  have hf1 : Fr NoBlk W (W.alloc o) := (Fr.refl _ _).alloc _
  have hfs : Fr (fun i => i = gm + 1) W2 (W2.setCell ⟨gm + 1, 0, none⟩ v2) := (Fr.refl (fun i => i = gm + 1) W2).setCell (p := ⟨gm + 1, 0, none⟩) (fun _ => rfl) _
  have hall : Fr (fun i => i = gm + 1 ∨ some i = v.ownBlock) W (W2.setCell ⟨gm + 1, 0, none⟩ v2) :=
    ((hf1.mono (D := fun i => i = gm + 1 ∨ some i = v.ownBlock) fun _ _ h => h.elim).step (Fr.ofGrown hg) fun _ _ e => .inr e).step hfs fun _ _ e => .inl e
  have hb2 : Bk W2 (gm + 1) 37 #[v] := (hb.alloc o).fr (Fr.ofGrown hg) fun e => by have := hlow _ e; omega
  refine ⟨((KeepsOthers.alloc W o).trans (KeepsOthers.of_grownBy hg fun j o' e hj => ?_)).trans (KeepsOthers.setCell _ _ _), fun i hi => hall.block i (by have := h.sz; omega) (fun e => ?_), ⟨v2, ?_, ?_⟩, h.bm.fr hall (fun e => ?_), h.fr.step hall (fun i hi e => ?_), by rw [List.length_append, List.length_singleton]; omega, Nat.le_trans h.sz hall.size⟩
  · rcases ho.2 with ⟨rfl, _⟩ | ⟨g, cap, cur, rfl, _, hh, _⟩
    · cases e
    · have e1 : g = j := by simpa [Value.ownBlock] using e
      subst e1
      rw [hh] at hj
      injection hj with hj
      rw [← hj]
      rfl
  · rcases e with e | e
    · omega
    · have := hlow _ e; omega
  · have h := hb2.put 0 v2
    simpa using h
  · rw [List.length_append, List.length_singleton, List.map_append, List.map_singleton]
    exact own_fr ho2 hfs fun i hi e => by have := hlow2 i hi; omega
  · rcases e with e | e
    · omega
    · have := hlow _ e; omega
  · rcases e with e | e
    · omega
    · have := hlow _ e; omega
theorem evS_one (L : List ByteArray) : ∀ u ∈ L.map evS, u.oneCell' = true := by
  intro u hu
  obtain ⟨x, _, rfl⟩ := List.mem_map.1 hu
  rfl

def valS {m : Int → Option ByteArray} (x : PlS m) : ByteArray := x.1.2

set_option maxRecDepth 100000 in
set_option maxHeartbeats 4000000 in
theorem fromS_any (w : World) (B gc bm s : Nat) (m : Int → Option ByteArray) (h : ChS w B gc bm s m) (a most : Int) (ha : wf64 a) :
    Calls Try.prog 15 #[.pointer (some ⟨gc, 0, none⟩), .int .i64 a, .int .i64 most] w fun e w' => ∃ v', e = .returned v' ∧ w'.ownsRow w.heap.size 9 1 v' ((seqV m a).take most.toNat).length (((seqV m a).take most.toNat).map evS) ∧ Fr NoBlk w w' := by
  obtain ⟨i0, hi, hz0, hz1, hz2⟩ := info_parts elemInfoS
  have HC := Lib.hid h
  have HGC := Lib.hid h.bk.lt
  have HBM := Lib.hid h.km.lt
  have HA := Lib.hid ha
  have HDM := Lib.hid h.dom
  clear h ha
  refine (callsIn_wide (n := 9)).1 ?_
  refine callsIn_of_wp_marks Try.func15 rfl trivial ?_ rfl
  simp only [Try.ntmps15, List.size_toArray, List.length_cons, List.length_nil, Nat.reduceAdd, Nat.reduceSub, Array.replicate_succ, Array.replicate_zero, List.push_toArray, List.append_toArray, List.nil_append, List.cons_append]
  gi_wp2
  refine ⟨trivial, (callsIn_wide.2 (behindS_any _ gc a)).mono ?_⟩
  rintro e w5 ⟨rfl, hw5⟩
  obtain ⟨gm, hgm⟩ : ∃ gm, gm = w.heap.size := ⟨_, rfl⟩
  have hsz3 : (w.alloc (.cells #[.int .i64 most] 3)).heap.size = gm + 1 := by rw [World.size_alloc, hgm]
  have hsz4 : ((w.alloc (.cells #[.int .i64 most] 3)).alloc (.cells #[.slice none 0 0] 37)).heap.size = gm + 1 + 1 := by rw [World.size_alloc, hsz3]
  rw [hsz4]
  have hbm5 : Bk w5 gm 3 #[.int .i64 most] := by rw [hw5, hgm]; exact (((Bk.new _ _ _).alloc _).alloc _).alloc _
  have hb50 : Bk w5 (gm + 1) 37 #[.slice none 0 0] := by
    rw [hw5, ← hsz3]
    exact ((Bk.new _ _ _).alloc _).alloc _
  have hb51 : Bk w5 (gm + 1 + 1) 24 #[.pointer (some ⟨gc, 0, none⟩)] := by
    rw [hw5, ← hsz4]
    exact (Bk.new _ _ _).alloc _
  have hb52 : Bk w5 (gm + 1 + 1 + 1) 3 #[.int .i64 a] := by
    rw [hw5, ← hsz4]
    have h := Bk.new (((w.alloc (.cells #[.int .i64 most] 3)).alloc (.cells #[.slice none 0 0] 37)).alloc (.cells #[.pointer (some ⟨gc, 0, none⟩)] 24)) 3 #[.int .i64 a]
    rw [World.size_alloc ((w.alloc (.cells #[.int .i64 most] 3)).alloc (.cells #[.slice none 0 0] 37))] at h
    exact h
  have hf5 : Fr NoBlk w w5 := by rw [hw5]; exact ((((Fr.refl NoBlk w).alloc _).alloc _).alloc _).alloc _
  have hs5 : w5.heap.size = gm + 1 + 1 + 1 + 1 := by rw [hw5, World.size_alloc, World.size_alloc, hsz4]
  have HI0 : Hid (FromSAt w gm most [] w5) := ⟨⟨_, hb50, World.ownsRow_nil _ _ _ _⟩, hbm5, hf5, Nat.zero_le _, by omega⟩
  have HST := Lib.hid (behindS_stops 8 (gm + 1 + 1 + 1) (gm + 1 + 1) (by omega) (fun i => i < w.heap.size ∨ i = gm + 1 + 1 ∨ i = gm + 1 + 1 + 1) B gc bm s m a HA.out (.inr (.inr rfl)) (.inr (.inl rfl)) (.inl HGC.out) (.inl HBM.out) w5 (HC.out.nofr hf5) hb52.lt hb51.lt (hb52.cell 0) (hb51.cell 0))
  have hKK : ∀ k, (k < w.heap.size ∨ k = gm + 1 + 1 ∨ k = gm + 1 + 1 + 1) → k < w5.heap.size := fun k hk => by omega
  have HGM : Hid (gm = w.heap.size) := hgm
  rw [← hgm]
  clear hbm5 hb50 hb51 hb52 hf5 hgm hsz3 hsz4 hw5 HC
  gi_wp2
  refine wpIn_rangeFunc_ownF rfl (by omega) (gf := 25) (lb := #[.pointer (some ⟨gm + 1 + 1 + 1, 0, none⟩), .pointer (some ⟨gm + 1 + 1, 0, none⟩)]) rfl trivial (enters_of Try.func25 (by kernel_rfl) rfl)
    HST.out (fun h k => h.t k) (Keep.b hKK) (Below.refl _ _) (fun _ => rfl)
    (fun (pre : List (PlS m)) W => FromSAt w gm most (pre.map valS) W)
    (fun c (pre : List (PlS m)) W => c = .exit 0 ∧ most ≤ (pre.dropLast.length : Int) ∧ FromSAt w gm most (pre.dropLast.map valS) W)
    (fun s W W' row hs hg hr => hs.others hg fun r e => ⟨by have := (hr r e).1; have := HGM.out; omega, (hr r e).2⟩)
    (fun _ s W W' row hs hg hr => ⟨hs.1, hs.2.1, hs.2.2.others hg fun r e => ⟨by have := (hr r e).1; have := HGM.out; omega, (hr r e).2⟩⟩)
    HI0.out
    (fun x => { tmps := #[.pointer (some ⟨gc, 0, none⟩), .int .i64 a, .int .i64 most, undef, undef, .pointer (some ⟨gm, 0, none⟩), .slice none 0 0, .pointer (some ⟨gm + 1, 0, none⟩), undef, evS x.1.2, .pointer (some ⟨gc, 0, none⟩), .int .i64 a, .func (.func 25) #[] #[.pointer (some ⟨gm + 1 + 1 + 1, 0, none⟩), .pointer (some ⟨gm + 1 + 1, 0, none⟩)], .int .i64 x.1.1, evS x.1.2, undef, undef, undef, undef, undef, undef, undef, undef, undef], defers := [] }) ?assign ?body ?done ?stop
  case assign =>
    intro l' x W K hK
    simp
    gi_wp2
    exact hK
  case body =>
    rintro l' pre x W hI hlen
    have HI := Lib.hid hI
    obtain ⟨v, hbx, hov⟩ := hI.box
    obtain ⟨Av, cv, rfl, hcv, hAv⟩ := own_form hov
    have hc1 := hbx.cell 0
    have hc2 := hI.bm.cell 0
    obtain ⟨k, hk⟩ : ∃ k, k = (pre.map valS).length := ⟨_, rfl⟩
    have hkp : k = pre.length := by rw [hk, List.length_map]
    rw [← hk] at hc1 hov hcv
    have HBX : Hid (Bk W (gm + 1) 37 #[.slice Av k cv]) := by show Bk _ _ _ _; rw [hk]; exact hbx
    have HOV := Lib.hid hov
    have HKN := Lib.hid hkp
    have HKK := Lib.hid hKK
    have HKM := Lib.hid hk
    have HLEN := Lib.hid hlen
    clear hI hbx hov hk hkp hKK hlen hcv hAv
    by_cases hmost : most ≤ (k : Int)
    · gi_wp2
      refine ⟨KeepsOthers.refl _, rfl, ?_, ?_⟩
      · rw [List.dropLast_concat, ← HKN.out]; exact hmost
      · rw [List.dropLast_concat]; exact HI.out
    · have hfz := HBX.out.free 0
      have HOV1 : Hid ((W.alloc (.cells #[evS x.1.2] 9)).ownsRow (gm + 4) 9 1 (.slice Av k cv) k ((pre.map valS).map evS)) := own_fr HOV.out ((Fr.refl NoBlk W).alloc _) fun _ _ h => h
      have HSRC : Hid (Rd (W.alloc (.cells #[evS x.1.2] 9)) (some ⟨W.heap.size, 0, none⟩) [evS x.1.2]) := Rd.of_cells (Bk.new W 9 #[evS x.1.2])
      obtain ⟨u, hu⟩ : ∃ u, u = x.1.2 := ⟨_, rfl⟩
      rw [← hu] at HOV1 HSRC ⊢
      have HU := Lib.hid hu
      unfold evS at HSRC ⊢
      have HNG : Hid (¬ most ≤ (k : Int)) := hmost
      have HOV2 : Hid ((W.alloc (.cells #[.string u] 9)).ownsRow (gm + 4) 9 1 (.slice Av k cv) k ((pre.map valS).map evS)) := HOV1.out
      clear hu HOV1
      gi_wp2_with (first | (gi_at_builtin; go_loud (refine wpListIn_app rfl _ _ 37 rfl (gm + 4) 9 i0 (Value.string { data := #[] }) 16 Try.underlying37 hi hz0 hz1 hz2 rfl (.slice Av k cv) k ((pre.map valS).map evS) rfl HOV2.out (some ⟨W.heap.size, 0, none⟩) 1 1 [.string u] rfl rfl HSRC.out (by intro y hy; rw [List.mem_singleton] at hy; rw [hy]; rfl) (fun h => by cases h) (by unfold maxLen; have := HLEN.out; have := HKN.out; omega) (by have := HLEN.out; have := HKN.out; omega) (by have := HI.out.sz; rw [World.size_alloc]; omega) ?_); intro v2 W2 ho2 hg2 hn2 hb2; obtain ⟨A2, c2, rfl, _, _⟩ := own_form ho2; have hbx2 := Lib.hid ((HBX.out.alloc (.cells #[.string u] 9)).fr (Fr.ofGrown hg2) (fun e => by have := (HOV2.out.lt _ e.symm).1; omega)); have hld := hbx2.out.cell 0; have hfz2 := hbx2.out.free 0; have HO2 := Lib.hid ho2; have HG2 := Lib.hid hg2; clear ho2 hg2 hn2 hb2) | gi_in)
      have HN := Lib.hid (FromSAt.next HI.out HBX.out (by rw [HKM.out] : k = (pre.map valS).length) HOV2.out u HO2.out HG2.out (by have := HNG.out; omega) HGM.out)
      refine ⟨HN.out.1, HN.out.2.1, ?_⟩
      show FromSAt w gm most ((pre ++ [x]).map valS) _
      rw [List.map_append, List.map_singleton, show valS x = u from HU.out.symm]
      exact HN.out.2.2
  case done =>
    rintro D xs W hD hS hI hK
    obtain ⟨v, hb, ho⟩ := hI.box
    have hc1 : W.cell? ⟨gm + 1, 0, none⟩ = some v := hb.cell 0
    have HD := Lib.hid hD
    have HO := Lib.hid ho
    have HI := Lib.hid hI
    have HKD := Lib.hid hK
    have HS : Hid (xs.map valS = (seqV m a).take most.toNat) := by
      show _ = _
      have h1 := hS.seq HDM.out
      have h2 : xs.map valS = seqV m a := by rw [seqV, ← h1, List.map_map]; rfl
      have h3 := hI.few
      rw [← h2, List.take_of_length_le h3]
    obtain ⟨Av, cv, rfl, _, _⟩ := own_form ho
    clear hI hS hb ho hD hK
    obtain ⟨k, hk⟩ : ∃ k, k = (xs.map valS).length := ⟨_, rfl⟩
    have HKN := Lib.hid hk
    rw [← hk] at hc1
    clear hk
    gi_wp2
    refine ⟨by simp, .inl ⟨_, _, rfl, run_takeDeferred HKD.out, ?_⟩⟩
    refine ⟨_, results_tmp rfl _ _ _, _, rfl, ?_, HI.out.fr.grown (grownBy_putObj' W D _) fun r e hl => ?_⟩
    · rw [← HS.out]
      have h := own_base (base' := w.heap.size) (own_others HO.out (grownBy_putObj' W D (.deferred none)) (fun r e => by cases e; exact ⟨_, HKD.out, rfl⟩)) (by have := HGM.out; omega)
      rw [← HKN.out] at h ⊢
      exact h
    · cases e
      have := HD.out
      have := HGM.out
      omega
  case stop =>
    rintro D c' pre W hD hS ⟨rfl, hmost, hI⟩ hK
    obtain ⟨v, hb, ho⟩ := hI.box
    have hc1 : W.cell? ⟨gm + 1, 0, none⟩ = some v := hb.cell 0
    have HD := Lib.hid hD
    have HO := Lib.hid ho
    have HI := Lib.hid hI
    have HKD := Lib.hid hK
    have HS : Hid (pre.dropLast.map valS = (seqV m a).take most.toNat) := by
      show _ = _
      have h1 := congrArg (List.map (·.2)) (hS.seq HDM.out)
      rw [List.map_map, List.map_take] at h1
      have h2 : pre.map valS = (seqV m a).take pre.length := by rw [List.length_map] at h1; exact h1
      have h3 := hI.few
      rw [List.length_map] at h3
      have h4 : pre.dropLast.length ≤ pre.length := by rw [List.length_dropLast]; omega
      rw [List.dropLast_eq_take, List.map_take, h2, List.take_take]
      congr 1
      rw [List.length_dropLast] at hmost h3 h4
      omega
    obtain ⟨Av, cv, rfl, _, _⟩ := own_form ho
    clear hI hS hb ho hD hK hmost
    obtain ⟨k, hk⟩ : ∃ k, k = (pre.dropLast.map valS).length := ⟨_, rfl⟩
    have HKN := Lib.hid hk
    rw [← hk] at hc1
    clear hk
    gi_wp2
    refine ⟨by simp, .inl ⟨_, _, rfl, run_takeDeferred HKD.out, ?_⟩⟩
    refine ⟨_, results_tmp rfl _ _ _, _, rfl, ?_, HI.out.fr.grown (grownBy_putObj' W D _) fun r e hl => ?_⟩
    · rw [← HS.out]
      have h := own_base (base' := w.heap.size) (own_others HO.out (grownBy_putObj' W D (.deferred none)) (fun r e => by cases e; exact ⟨_, HKD.out, rfl⟩)) (by have := HGM.out; omega)
      rw [← HKN.out] at h ⊢
      exact h
    · cases e
      have := HD.out
      have := HGM.out
      omega
end Go.Proofs.Ytpldfdeikcaenaa
