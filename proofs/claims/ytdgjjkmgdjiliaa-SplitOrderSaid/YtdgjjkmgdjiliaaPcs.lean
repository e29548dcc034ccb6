/- Split's Pieces: the pieces of a log in new memory. Conditions: few orders, small ones. -/
import Derived.RangeFuncFrom
import Derived.Test.YtdgjjkmgdjiliaaRpc
import Derived.Test.YtdgjjkmgdjiliaaCpd
namespace Go.Proofs.Ytdgjjkmgdjiliaa
open Go.RowKit Go.Shelf Go.Maps
attribute [local go_sem] Oper.semAt_some

theorem step_appWIn {F : Fence} {nF : Nat} {P : Program} {w : World} {ops : Array Oper} {o : Oper} {a : Act} {K : Act → World → Prop} {Q : Exit → Act → World → Prop} {E : Prop} (hgd : o.guard = none) (s x : Operand) (t : TypeId)
    (ho : o.op = .call { callee := .builtin .append, args := #[s, x], argTypes := #[t, t] })
    (base : Nat) (e : TypeId) (i : TypeInfo) (z : Value) (size bytes : Nat) (ht : P.underlying t = some (.slice e)) (hi : P.info? e = some i) (hz : i.zero = some z)
    (hsize : i.size = size) (hby : i.bytes = bytes) (hzs : z.cells.size = size) (hpos : 0 < size)
    (v : Value) (n : Nat) (xs : List Value) (hs : a.eval s = v) (hown : w.ownsRow base e size v n xs)
    (A : Option Addr) (c m : Nat) (news : List Value) (hx : a.eval x = .slice A m c) (hm : news.length = m * size) (hr : Rd w A news) (h1 : ∀ u ∈ news, u.oneCell' = true)
    (hA : A = none → c = 0)
    (h63 : n + m ≤ maxLen) (hbytes : (n + m) * bytes ≤ 140737488355328) (hbase : base ≤ w.heap.size)
    (h : ∀ v' w', w'.ownsRow base e size v' (n + m) (xs ++ news) → w.grownBy w' v.ownBlock → (v'.ownBlock = v.ownBlock ∨ v'.ownBlock = some w.heap.size) → K (a.put o.dst v') w') :
    if Region.wanted o (yielded ops a.tmps) = true then Oper.wpIn F nF P o a w K Q else E := by
  have hw : Region.wanted o (yielded ops a.tmps) = true := by simp [Region.wanted, hgd]
  rw [if_pos hw]
  obtain ⟨v', w', hrun, h2, h3, h5⟩ := run_appW (P := P) w base t o.type e i z size bytes ht hi hz hsize hby hzs hpos v n xs hown A c m news hm hr h1 hA h63 hbytes hbase
  unfold Oper.wpIn
  refine ⟨by simp [Oper.about, ho, resolve, Target.leads, Sem.run_pure], ?_⟩
  rw [Oper.semAt_plain F _ _ (by rw [ho]; intro c hc'; cases hc')]
  simp [execOp, ho, resolve, invoke, builtin, hs, hx, hrun, Result.andThen]
  exact h v' w' h2 h3 h5

/-- an item that copies a piece: its order is alike, in memory made since N. -/
structure ItOf (W : World) (N : Nat) (i : Im) (p : Pc) : Prop where
  kind : i.kind = 2
  index : i.index = p.1
  like : OAlike i.o p.2
  inn : OdIn W i.o
  own : WOwn W N i.o.t
  ownm : Fsh W N i.o.ma (i.o.marks.length * 3) 63
theorem ItOf.frV {W W' : World} {N V : Nat} {T : TypeId} {cs : Array Value} {i : Im} {p : Pc} (h : ItOf W N i p) (hf : Fr (fun k => k = V) W W') (hV : Bk W V T cs) (h1 : 9 ≠ T) (h2 : 98 ≠ T) (h3 : 5 ≠ T) (h4 : 63 ≠ T) : ItOf W' N i p := by
  have ht := h.inn.txn.frV h.own hf hV h1 h2 h3
  exact ⟨h.kind, h.index, h.like, ⟨ht.1, h.inn.marks.fr' hf fun hp => h.ownm.ne hV h4 (by rw [mksc_len] at hp; omega), h.inn.ml, h.inn.keys, h.inn.nums⟩, ht.2, h.ownm.frV hf hV h4⟩
theorem ItOf.nofr {W W' : World} {N : Nat} {i : Im} {p : Pc} (h : ItOf W N i p) (hf : Fr NoBlk W W') : ItOf W' N i p :=
  ⟨h.kind, h.index, h.like, h.inn.nofr hf, h.own.fr hf, h.ownm.fr hf⟩
theorem ItOf.grown {W W' : World} {N base n : Nat} {v : Value} {L : List Value} {i : Im} {p : Pc} (h : ItOf W N i p) (ho : W.ownsRow base 40 12 v n L) (hg : W.grownBy W' v.ownBlock) : ItOf W' N i p := by
  rcases ho.2 with ⟨rfl, _⟩ | ⟨g, cap, cur, rfl, _, hh, _⟩
  · exact h.nofr ((Fr.ofGrown hg).mono fun i _ e => by cases e)
  · exact h.frV (V := g) ((Fr.ofGrown hg).mono fun i _ e => by simpa [Value.ownBlock] using e) hh (by decide) (by decide) (by decide) (by decide)
def ItsOf (W : World) (N : Nat) (its : List Im) (ps : List Pc) : Prop := its.length = ps.length ∧ ∀ (j : Nat) (i : Im) (p : Pc), its[j]? = some i → ps[j]? = some p → ItOf W N i p

/-- what is gathered behind some pieces: in the box gd a row of items. -/
structure GatI (w : World) (gd base : Nat) (pre : List Pc) (W : World) : Prop where
  box : ∃ v its, Bk W gd 22 #[v] ∧ W.ownsRow base 40 12 v pre.length (imsc its) ∧ ItsOf W w.heap.size its pre
  fr : Fr NoBlk w W
theorem ItsOf.snoc {W : World} {N : Nat} {its : List Im} {ps : List Pc} {i : Im} {p : Pc} (h : ItsOf W N its ps) (hi : ItOf W N i p) : ItsOf W N (its ++ [i]) (ps ++ [p]) := by
  refine ⟨by rw [List.length_append, List.length_append, h.1]; rfl, fun j a b ha hb => ?_⟩
  rcases Nat.lt_or_ge j its.length with hj | hj
  · rw [List.getElem?_append_left hj] at ha
    rw [List.getElem?_append_left (by rw [← h.1]; exact hj)] at hb
    exact h.2 j a b ha hb
  · rw [List.getElem?_append_right hj] at ha
    rw [List.getElem?_append_right (by rw [← h.1]; exact hj), ← h.1] at hb
    obtain ⟨k, hk⟩ : ∃ k, k = j - its.length := ⟨_, rfl⟩
    rw [← hk] at ha hb
    cases k with
    | zero =>
      injection ha with ha
      injection hb with hb
      subst ha hb
      exact hi
    | succ k => cases ha
theorem GatI.next {w W W4 W5 : World} {gd base m : Nat} {pre : List Pc} {p : Pc} {b : Od} {v v2 : Value} {its : List Im} {L : List Value} (hfr : Fr NoBlk w W) (hbx : Bk W gd 22 #[v]) (hits : ItsOf W w.heap.size its pre) (hm : m = pre.length) (hL : L = imsc its) (hW4 : Fr NoBlk W W4) (hcp : ItOf W4 w.heap.size ⟨2, p.1, b⟩ p)
    (ho4 : W4.ownsRow base 40 12 v m L) (ho2 : W5.ownsRow base 40 12 v2 (m + 1) (L ++ imsc [⟨2, p.1, b⟩])) (hg2 : W4.grownBy W5 v.ownBlock) (hge : w.heap.size ≤ gd ∧ gd < base) :
    KeepsOthers W (W5.setCell ⟨gd, 0, none⟩ v2) ∧ KpS base (fun i => i = gd) W (W5.setCell ⟨gd, 0, none⟩ v2) ∧ GatI w gd base (pre ++ [p]) (W5.setCell ⟨gd, 0, none⟩ v2) := by
  subst hm hL
  have hb4 := hbx.fr hW4 fun e => e
  have n1 : some gd ≠ v.ownBlock := fun e => own_apart ho4 hb4 (by decide) e.symm
  have hb5 := hb4.fr (Fr.ofGrown hg2) n1
  have n3 : v2.ownBlock ≠ some gd := own_apart ho2 hb5 (by decide)
  have hfs : Fr (fun i => i = gd) W5 (W5.setCell ⟨gd, 0, none⟩ v2) := (Fr.refl (fun i => i = gd) W5).setCell (p := ⟨gd, 0, none⟩) (fun _ => rfl) _
  have hall : Fr (fun i => i = gd ∨ some i = v.ownBlock) W (W5.setCell ⟨gd, 0, none⟩ v2) :=
    ((hW4.mono (D := fun i => i = gd ∨ some i = v.ownBlock) fun _ _ h => h.elim).step (Fr.ofGrown hg2) fun _ _ e => .inr e).step hfs fun _ _ e => .inl e
  have hrow : ∀ i, some i = v.ownBlock → base ≤ i ∧ ∃ cs, W4.heap[i]? = some (.cells cs 40 (0, 0)) := fun i e => by
    rcases ho4.2 with ⟨rfl, _⟩ | ⟨g', cap, cur, rfl, hbb, hh, _⟩
    · cases e
    · have e1 : i = g' := by simpa [Value.ownBlock] using e
      subst e1
      exact ⟨hbb, _, hh⟩
  have hkind : ∀ i, i < W.heap.size → (i = gd ∨ some i = v.ownBlock) → (i = gd ∨ base ≤ i) ∧ ∃ cs T, W.heap[i]? = some (.cells cs T (0, 0)) ∧ T ≠ 77 := fun i hi e => by
    rcases e with rfl | e
    · exact ⟨.inl rfl, _, _, hbx, by decide⟩
    · obtain ⟨h1, cs, h2⟩ := hrow i e
      exact ⟨.inr h1, cs, _, (hW4.block i hi fun e => e).symm.trans h2, by decide⟩
  refine ⟨⟨hall.size, fun k o hk hc => ?_⟩, hall.mono fun i hi e hn => ?_, ⟨v2, its ++ [⟨2, p.1, b⟩], ?_, ?_, ?_⟩, hfr.step hall fun i hi e => ?_⟩
  · have hlt := (Array.getElem?_eq_some_iff.1 hk).1
    refine (hall.block k hlt fun e => ?_).trans hk
    obtain ⟨_, cs, T, h1, _⟩ := hkind k hlt e
    rw [hk] at h1
    injection h1 with h1
    subst h1
    cases hc
  · obtain ⟨h0, cs, T, h1, h2⟩ := hkind i hi e
    rcases hn with ⟨hn1, hn2⟩ | ⟨o, ho, hk⟩
    · rcases h0 with h0 | h0
      · exact hn2 h0
      · omega
    · rw [h1] at ho
      injection ho with ho
      subst ho
      rcases hk with hk | ⟨cs', hk⟩
      · cases hk
      · injection hk with _ hk _
        exact h2 hk
  · have h := hb5.put 0 v2
    simpa using h
  · have h := own_fr ho2 hfs fun i hi e => n3 (e ▸ hi)
    rw [List.length_append, List.length_singleton]
    unfold imsc at h ⊢
    rw [List.flatMap_append]
    exact h
  · have h5 : ItsOf W5 w.heap.size its pre := ⟨hits.1, fun j a c ha hc => ((hits.2 j a c ha hc).nofr hW4).grown ho4 hg2⟩
    have h6 := h5.snoc (hcp.grown ho4 hg2)
    exact ⟨h6.1, fun j a c ha hc => (h6.2 j a c ha hc).frV hfs hb5 (by decide) (by decide) (by decide) (by decide)⟩
  · rcases e with rfl | e
    · omega
    · have := (hrow i e).1
      omega
theorem own_others {w w' : World} {base : Nat} {e : TypeId} {size n : Nat} {v : Value} {xs : List Value} {row : Option Nat} (h : w.ownsRow base e size v n xs) (hg : w.grownBy w' row) (hr : ∀ r, row = some r → ∃ o : Obj, w.heap[r]? = some o ∧ o.isCells = false) : w'.ownsRow base e size v n xs :=
  own_fr h (Fr.ofGrown hg) fun k hk e => by
    obtain ⟨o, ho, hc⟩ := hr k e.symm
    rcases h.2 with ⟨rfl, _⟩ | ⟨g, cap, cur, rfl, _, hh, _⟩
    · cases hk
    · have e1 : g = k := by simpa [Value.ownBlock] using hk
      subst e1
      rw [hh] at ho
      injection ho with ho
      rw [← ho] at hc
      cases hc
theorem Rd.others {W W' : World} {row : Option Nat} {A : Option Addr} {xs : List Value} (h : Rd W A xs) (hg : W.grownBy W' row) (hr : ∀ r, row = some r → ∃ o : Obj, W.heap[r]? = some o ∧ o.isCells = false) : Rd W' A xs := fun hx => by
  obtain ⟨b, o, e, hc⟩ := h hx
  exact ⟨b, o, e, fun j v hj => cell_kept (hc j v hj) hg hr⟩
theorem Fsh.others {W W' : World} {row : Option Nat} {N n : Nat} {A : Option Addr} {T : TypeId} (h : Fsh W N A n T) (hg : W.grownBy W' row) (hr : ∀ r, row = some r → ∃ o : Obj, W.heap[r]? = some o ∧ o.isCells = false) : Fsh W' N A n T := fun hp => by
  obtain ⟨g, cs, e, hN, hb, hs⟩ := h hp
  refine ⟨g, cs, e, hN, (hg.block g hb.lt fun e => ?_).trans hb, hs⟩
  obtain ⟨o, ho, hc⟩ := hr g e.symm
  unfold Bk at hb
  rw [hb] at ho
  injection ho with ho
  subst ho
  cases hc
theorem ItOf.others {W W' : World} {row : Option Nat} {N : Nat} {i : Im} {p : Pc} (h : ItOf W N i p) (hg : W.grownBy W' row) (hr : ∀ r, row = some r → ∃ o : Obj, W.heap[r]? = some o ∧ o.isCells = false) : ItOf W' N i p :=
  ⟨h.kind, h.index, h.like, ⟨⟨h.inn.txn.reads.others hg hr, h.inn.txn.writes.others hg hr, h.inn.txn.ops.others hg hr, fun x hx => ⟨⟨(h.inn.txn.vals x hx).1.1.others hg hr, (h.inn.txn.vals x hx).1.2⟩, (h.inn.txn.vals x hx).2⟩, h.inn.txn.texts, h.inn.txn.rl, h.inn.txn.wl, h.inn.txn.ol⟩, h.inn.marks.others hg hr, h.inn.ml, h.inn.keys, h.inn.nums⟩,
    ⟨h.own.fr_.others hg hr, h.own.fw_.others hg hr, h.own.fo_.others hg hr, fun x hx => (h.own.fv_ x hx).others hg hr⟩, h.ownm.others hg hr⟩
theorem GatI.others {w W W' : World} {gd base : Nat} {pre : List Pc} {row : Option Nat} (h : GatI w gd base pre W) (hb : w.heap.size ≤ base) (hg : W.grownBy W' row) (hr : ∀ r, row = some r → base ≤ r ∧ ∃ o : Obj, W.heap[r]? = some o ∧ o.isCells = false) : GatI w gd base pre W' := by
  obtain ⟨v, its, h1, h2, h3⟩ := h.box
  have hf := Fr.ofGrown hg
  have hne : ∀ g T cs, Bk W g T cs → ¬ some g = row := fun g T cs hb e => by
    obtain ⟨_, o, ho, hc⟩ := hr g e.symm
    unfold Bk at hb
    rw [hb] at ho
    injection ho with ho
    subst ho
    cases hc
  refine ⟨⟨v, its, (hf.block gd h1.lt (hne _ _ _ h1)).trans h1, own_others h2 hg fun r e => (hr r e).2, h3.1, fun j i p hi hp => (h3.2 j i p hi hp).others hg fun r e => (hr r e).2⟩, h.fr.step hf fun i hi e => ?_⟩
  have := (hr i e.symm).1
  omega
set_option maxRecDepth 100000 in
set_option maxHeartbeats 2000000 in
theorem spieces_any (w : World) (A : Option Addr) (c : Nat) (xs : List Od) (rg : Int) (hL : LogIn w A xs) (hs : ∀ o ∈ xs, OSmall o) :
    Calls Try.prog 38 #[.slice A xs.length c, .int .i64 rg] w fun e w' => ∃ A' c' its, e = .returned (.slice A' (pcs rg xs xs.length).length c') ∧ w'.ownsRow w.heap.size 40 12 (.slice A' (pcs rg xs xs.length).length c') (pcs rg xs xs.length).length (imsc its) ∧ ItsOf w' w.heap.size its (pcs rg xs xs.length) ∧ Fr NoBlk w w' := by
  obtain ⟨i0, hi, hz0, hz1, hz2⟩ := info_partsR itemInfo
  have HL := Lib.hid hL
  have HS := Lib.hid hs
  clear hL hs
  refine (callsIn_wide (n := 9)).1 ?_
  refine callsIn_of_wp_marks Try.func38 rfl trivial ?_ rfl
  simp only [Try.ntmps38, List.size_toArray, List.length_cons, List.length_nil, Nat.reduceAdd, Nat.reduceSub, Array.replicate_succ, Array.replicate_zero, List.push_toArray, List.append_toArray, List.nil_append, List.cons_append]
  gi_wp2
  refine ⟨trivial, (callsIn_wide.2 (pieces_any _ A xs.length c rg)).mono ?_⟩
  rintro e w5 ⟨rfl, hw5⟩
  obtain ⟨gd, hgd⟩ : ∃ gd, gd = w.heap.size := ⟨_, rfl⟩
  have hsz1 : (w.alloc (.cells #[.slice none 0 0] 22)).heap.size = gd + 1 := by rw [World.size_alloc, hgd]
  have hsz2 : ((w.alloc (.cells #[.slice none 0 0] 22)).alloc (.cells #[.slice A xs.length c] 47)).heap.size = gd + 2 := by rw [World.size_alloc, hsz1]
  rw [hsz1]
  have hb0 : Bk w5 gd 22 #[.slice none 0 0] := by rw [hw5, hgd]; exact ((Bk.new _ _ _).alloc _).alloc _
  have hb1 : Bk w5 (gd + 1) 47 #[.slice A xs.length c] := by rw [hw5, ← hsz1]; exact (Bk.new _ _ _).alloc _
  have hb2 : Bk w5 (gd + 1 + 1) 3 #[.int .i64 rg] := by rw [hw5]; rw [show gd + 1 + 1 = ((w.alloc (.cells #[.slice none 0 0] 22)).alloc (.cells #[.slice A xs.length c] 47)).heap.size from hsz2.symm]; exact Bk.new _ _ _
  have hf5 : Fr NoBlk w w5 := by rw [hw5]; exact (((Fr.refl NoBlk w).alloc _).alloc _).alloc _
  have HB5 : Hid (w5.heap.size = gd + 3) := by show _ = _; rw [hw5, World.size_alloc, hsz2]
  have HGD : Hid (w.heap.size = gd) := hgd.symm
  have HST := Lib.hid (pieces1_in 8 (gd + 1) (gd + 1 + 1) (by omega) (fun i => i = gd) rg A c xs w w5 hf5 (fun i e => by omega) HL.out.1 HL.out.2.1 HL.out.2.2 hb1 hb2 (by omega))
  obtain ⟨base, hbase⟩ : ∃ base, base = w5.heap.size := ⟨_, rfl⟩
  have HI0 : Hid (GatI w gd base [] w5) := ⟨⟨_, [], hb0, World.ownsRow_nil _ _ _ _, ⟨rfl, fun j i p h => by cases h⟩⟩, hf5⟩
  have HGE : Hid (w.heap.size ≤ gd ∧ gd < base) := ⟨by omega, by have := HB5.out; omega⟩
  have HBE := Lib.hid hbase
  rw [← hgd]
  clear hb0 hb1 hb2 hf5 hsz1 hsz2 hgd hw5 hbase
  gi_wp2
  refine wpIn_rangeFunc_ownH rfl (by omega) (gf := 65) (lb := #[.pointer (some ⟨gd + 1, 0, none⟩), .pointer (some ⟨gd + 1 + 1, 0, none⟩)]) rfl trivial (enters_of Try.func65 (by kernel_rfl) rfl)
    HST.out (fun h k => h.t k) (KpS.b (Nat.le_refl _)) (Below.refl _ _) (fun _ => rfl)
    (fun (pre : List (PcX xs)) W => GatI w gd base (pre.map (fun (x : PcX xs) => x.1)) W)
    (fun _ _ _ => False)
    (fun s W W' row hs hg hr => hs.others (by have := HGE.out; omega) hg fun r e => ⟨by have := (hr r e).1; have := HBE.out; omega, (hr r e).2⟩)
    (fun _ _ _ _ _ hs _ _ => hs)
    HI0.out
    (fun x a' W => ∃ q, a' = { tmps := #[.slice A xs.length c, .int .i64 rg, undef, undef, .slice none 0 0, .pointer (some ⟨gd, 0, none⟩), .pointer (some ⟨q, 0, none⟩), .slice A xs.length c, .int .i64 rg, .func (.func 65) #[] #[.pointer (some ⟨gd + 1, 0, none⟩), .pointer (some ⟨gd + 1 + 1, 0, none⟩)], imv ⟨2, x.1.1, x.1.2⟩, undef, undef, undef, undef, undef, undef], defers := [] } ∧ Bk W q 40 (ima ⟨2, x.1.1, x.1.2⟩))
    (fun x a' _ W W' row hs hg hr => by
      obtain ⟨q, e, hb⟩ := hs
      refine ⟨q, e, (hg.block q hb.lt fun e => ?_).trans hb⟩
      obtain ⟨o, ho, hc⟩ := (hr q e.symm).2
      unfold Bk at hb
      rw [hb] at ho
      injection ho with ho
      subst ho
      cases hc) ?assign ?body ?done ?stop
  case assign =>
    intro l' pre x W K hI hK
    have HI := Lib.hid hI
    have HKK := Lib.hid hK
    clear hI hK
    simp [encP, imv, ima]
    gi_wp2
    exact HKK.out _ _ ((KeepsOthers.alloc _ _).from _) ((Fr.refl _ _).alloc _) (HI.out.others (by have := HGE.out; omega) (World.grownBy_alloc W _ none) fun r e => by cases e) ⟨W.heap.size, rfl, Bk.new _ _ _⟩
  case body =>
    rintro l' pre x a' W hll hlo hI ⟨q, rfl, hq⟩ hlen
    obtain ⟨v, its, hbx, hov, hits⟩ := hI.box
    obtain ⟨Av, cv, rfl, hcv, hAv⟩ := own_form hov
    obtain ⟨m, hm⟩ : ∃ m, m = (pre.map (fun (x : PcX xs) => x.1)).length := ⟨_, rfl⟩
    have hmk : m ≤ 40 := by rw [hm, List.length_map]; omega
    rw [← hm] at hbx hov
    have hx := List.mem_of_getElem? x.2
    have hLW := HL.out.nofr hI.fr
    obtain ⟨Wd, hWd⟩ : ∃ Wd, Wd = W.drew := ⟨_, rfl⟩
    have hfd : Fr NoBlk W Wd := by rw [hWd]; exact (Fr.refl _ _).drew
    have HCPD : Hid (∀ V, Fr NoBlk Wd V → Calls Try.prog 54 #[imv ⟨2, x.1.1, x.1.2⟩] V fun e V' => ∃ b, e = .returned (imv ⟨2, x.1.1, b⟩) ∧ OCpy V V' x.1.2 b) := fun V hV => copied_any V ⟨2, x.1.1, x.1.2⟩ ((hLW.2.1 _ hx).1.nofr (hfd.trans hV)) (HS.out _ hx)
    have HFR := Lib.hid hI.fr
    have HBX0 := Lib.hid hbx
    have HBXd := Lib.hid (hbx.fr hfd fun e => e)
    have HOVd : Hid (Wd.ownsRow base 40 12 (.slice Av m cv) m (imsc its)) := own_fr hov hfd fun _ _ e => e
    have HITS := Lib.hid hits
    have HM := Lib.hid hm
    have HMK := Lib.hid hmk
    have HFD := Lib.hid hfd
    have HWD := Lib.hid hWd
    have HBQ : Hid (Bk Wd q 40 #[.int .i64 2, .int .i64 (x.1.1 : Int), .int .i64 x.1.2.node, .int .u64 (x.1.2.epoch : Int), .int .u64 (x.1.2.seq : Int), .int .i64 x.1.2.tr, .int .i64 x.1.2.t.kind, .slice x.1.2.t.ra x.1.2.t.reads.length x.1.2.t.rc, .slice x.1.2.t.wa x.1.2.t.writes.length x.1.2.t.wc, .slice x.1.2.t.oa x.1.2.t.ops.length x.1.2.t.oc, .int .i64 x.1.2.t.to, .slice x.1.2.ma x.1.2.marks.length x.1.2.mc]) := hq.fr hfd fun e => e
    have HBS : Hid (base ≤ Wd.heap.size) := by show _ ≤ _; have := hfd.size; have := HBE.out; have h2 := (Array.getElem?_eq_some_iff.1 hlo.choose_spec).1; omega
    clear hbx hov hits hm hmk hx hLW hfd hI hq hlen hcv hAv
    unfold imv ima
    unfold imv ima at HCPD
    dsimp only
    dsimp only at HCPD
    have hl0 : Wd.cell? ⟨gd, 0, none⟩ = some (.slice Av m cv) := HBXd.out.cell 0
    have d0 : Wd.cell? ⟨q, 0, none⟩ = some (.int .i64 2) := HBQ.out.cell 0
    have d1 : Wd.cell? ⟨q, 1, none⟩ = some (.int .i64 (x.1.1 : Int)) := HBQ.out.cell 1
    have d2 : Wd.cell? ⟨q, 2, none⟩ = some (.int .i64 x.1.2.node) := HBQ.out.cell 2
    have d3 : Wd.cell? ⟨q, 3, none⟩ = some (.int .u64 (x.1.2.epoch : Int)) := HBQ.out.cell 3
    have d4 : Wd.cell? ⟨q, 4, none⟩ = some (.int .u64 (x.1.2.seq : Int)) := HBQ.out.cell 4
    have d5 : Wd.cell? ⟨q, 5, none⟩ = some (.int .i64 x.1.2.tr) := HBQ.out.cell 5
    have d6 : Wd.cell? ⟨q, 6, none⟩ = some (.int .i64 x.1.2.t.kind) := HBQ.out.cell 6
    have d7 : Wd.cell? ⟨q, 7, none⟩ = some (.slice x.1.2.t.ra x.1.2.t.reads.length x.1.2.t.rc) := HBQ.out.cell 7
    have d8 : Wd.cell? ⟨q, 8, none⟩ = some (.slice x.1.2.t.wa x.1.2.t.writes.length x.1.2.t.wc) := HBQ.out.cell 8
    have d9 : Wd.cell? ⟨q, 9, none⟩ = some (.slice x.1.2.t.oa x.1.2.t.ops.length x.1.2.t.oc) := HBQ.out.cell 9
    have d10 : Wd.cell? ⟨q, 10, none⟩ = some (.int .i64 x.1.2.t.to) := HBQ.out.cell 10
    have d11 : Wd.cell? ⟨q, 11, none⟩ = some (.slice x.1.2.ma x.1.2.marks.length x.1.2.mc) := HBQ.out.cell 11
    gi_wp2
    refine wpIn_region_any (by first | assumption | kernel_rfl) ?_
    change wpAnyIn _ _ _ _ _ _ _ _ _ (World.drew _)
    rw [← hWd]
    clear hWd
    refine wpAnyIn_ready (rs := [0, 1]) (by kernel_rfl) (by simp) ?_
    refine AllReadyIn.cons rfl (fun K hK => ?_) (AllReadyIn.cons rfl (fun K hK => ?_) AllReadyIn.nil)
    · skip
      go_simp
      refine hK _ _ ?_
      clear hK K
      try simp only [Act.put, List.setIfInBounds_toArray, List.set_cons_zero, List.set_cons_succ]
      refine wpAnyIn_ready (rs := [1]) (by kernel_rfl) (by simp) ?_
      refine AllReadyIn.cons rfl (fun K hK => ?_) AllReadyIn.nil
      go_simp
      refine hK _ _ ?_
      clear hK K
      try simp only [Act.put, List.setIfInBounds_toArray, List.set_cons_zero, List.set_cons_succ]
      refine wpAnyIn_ready (rs := [2]) (by kernel_rfl) (by simp) ?_
      refine AllReadyIn.cons rfl (fun K hK => ?_) AllReadyIn.nil
      go_simp
      refine ⟨trivial, ?_⟩
      refine (CallsIn.inRound l' (callsIn_wide.2 (HCPD.out _ (Fr.refl _ _)))).mono ?_
      rintro e W3 ⟨b, rfl, hcp⟩
      have HCP := Lib.hid hcp
      have hld3 : W3.cell? ⟨gd, 0, none⟩ = some (.slice Av m cv) := (HBXd.out.fr hcp.fr fun h => h).cell 0
      clear hcp
      refine hK _ _ ?_
      clear hK K
      try simp only [Act.put, List.setIfInBounds_toArray, List.set_cons_zero, List.set_cons_succ]
      refine wpAnyIn_ready (rs := [3]) (by kernel_rfl) (by simp) ?_
      refine AllReadyIn.cons rfl (fun K hK => ?_) AllReadyIn.nil
      have HO4 : Hid ((W3.alloc (.cells #[.int .i64 2, .int .i64 (x.1.1 : Int), .int .i64 b.node, .int .u64 (b.epoch : Int), .int .u64 (b.seq : Int), .int .i64 b.tr, .int .i64 b.t.kind, .slice b.t.ra b.t.reads.length b.t.rc, .slice b.t.wa b.t.writes.length b.t.wc, .slice b.t.oa b.t.ops.length b.t.oc, .int .i64 b.t.to, .slice b.ma b.marks.length b.mc] 40)).ownsRow base 40 12 (.slice Av m cv) m (imsc its)) := own_fr (own_fr HOVd.out HCP.out.fr fun _ _ h => h) ((Fr.refl NoBlk _).alloc _) fun _ _ h => h
      have HS4 : Hid (Rd (W3.alloc (.cells #[.int .i64 2, .int .i64 (x.1.1 : Int), .int .i64 b.node, .int .u64 (b.epoch : Int), .int .u64 (b.seq : Int), .int .i64 b.tr, .int .i64 b.t.kind, .slice b.t.ra b.t.reads.length b.t.rc, .slice b.t.wa b.t.writes.length b.t.wc, .slice b.t.oa b.t.ops.length b.t.oc, .int .i64 b.t.to, .slice b.ma b.marks.length b.mc] 40)) (some ⟨W3.heap.size, 0, none⟩) [.int .i64 2, .int .i64 (x.1.1 : Int), .int .i64 b.node, .int .u64 (b.epoch : Int), .int .u64 (b.seq : Int), .int .i64 b.tr, .int .i64 b.t.kind, .slice b.t.ra b.t.reads.length b.t.rc, .slice b.t.wa b.t.writes.length b.t.wc, .slice b.t.oa b.t.ops.length b.t.oc, .int .i64 b.t.to, .slice b.ma b.marks.length b.mc]) := Rd.of_cells (Bk.new W3 40 #[.int .i64 2, .int .i64 (x.1.1 : Int), .int .i64 b.node, .int .u64 (b.epoch : Int), .int .u64 (b.seq : Int), .int .i64 b.tr, .int .i64 b.t.kind, .slice b.t.ra b.t.reads.length b.t.rc, .slice b.t.wa b.t.writes.length b.t.wc, .slice b.t.oa b.t.ops.length b.t.oc, .int .i64 b.t.to, .slice b.ma b.marks.length b.mc])
      have hld4 : (W3.alloc (.cells #[.int .i64 2, .int .i64 (x.1.1 : Int), .int .i64 b.node, .int .u64 (b.epoch : Int), .int .u64 (b.seq : Int), .int .i64 b.tr, .int .i64 b.t.kind, .slice b.t.ra b.t.reads.length b.t.rc, .slice b.t.wa b.t.writes.length b.t.wc, .slice b.t.oa b.t.ops.length b.t.oc, .int .i64 b.t.to, .slice b.ma b.marks.length b.mc] 40)).cell? ⟨gd, 0, none⟩ = some (.slice Av m cv) := (((HBXd.out.fr HCP.out.fr fun h => h)).alloc _).cell 0
      have HON : Hid (∀ u ∈ ([.int .i64 2, .int .i64 (x.1.1 : Int), .int .i64 b.node, .int .u64 (b.epoch : Int), .int .u64 (b.seq : Int), .int .i64 b.tr, .int .i64 b.t.kind, .slice b.t.ra b.t.reads.length b.t.rc, .slice b.t.wa b.t.writes.length b.t.wc, .slice b.t.oa b.t.ops.length b.t.oc, .int .i64 b.t.to, .slice b.ma b.marks.length b.mc] : List Value), u.oneCell' = true) := imsc_one [⟨2, x.1.1, b⟩]
      have HSZ4 : Hid (base ≤ (W3.alloc (.cells #[.int .i64 2, .int .i64 (x.1.1 : Int), .int .i64 b.node, .int .u64 (b.epoch : Int), .int .u64 (b.seq : Int), .int .i64 b.tr, .int .i64 b.t.kind, .slice b.t.ra b.t.reads.length b.t.rc, .slice b.t.wa b.t.writes.length b.t.wc, .slice b.t.oa b.t.ops.length b.t.oc, .int .i64 b.t.to, .slice b.ma b.marks.length b.mc] 40)).heap.size) := by show _ ≤ _; have h1 := HCP.out.fr.size; have h2 := HBS.out; rw [World.size_alloc]; omega
      go_simp
      refine hK _ _ ?_
      clear hK K
      try simp only [Act.put, List.setIfInBounds_toArray, List.set_cons_zero, List.set_cons_succ]
      refine wpAnyIn_ready (rs := [4]) (by kernel_rfl) (by simp) ?_
      refine AllReadyIn.cons rfl (fun K hK => ?_) AllReadyIn.nil
      refine step_appWIn rfl _ _ 22 rfl base 40 i0 _ 12 160 Try.underlying22 hi hz0 hz1 hz2 rfl (by decide) (.slice Av m cv) m (imsc its) rfl HO4.out (some ⟨W3.heap.size, 0, none⟩) 1 1 [.int .i64 2, .int .i64 (x.1.1 : Int), .int .i64 b.node, .int .u64 (b.epoch : Int), .int .u64 (b.seq : Int), .int .i64 b.tr, .int .i64 b.t.kind, .slice b.t.ra b.t.reads.length b.t.rc, .slice b.t.wa b.t.writes.length b.t.wc, .slice b.t.oa b.t.ops.length b.t.oc, .int .i64 b.t.to, .slice b.ma b.marks.length b.mc] rfl rfl HS4.out HON.out (fun h => by cases h) (by unfold maxLen; have := HMK.out; omega) (by have := HMK.out; omega) HSZ4.out ?_
      intro v2 W5 ho2 hg2 hb2
      have HNX := Lib.hid (GatI.next (p := x.1) (b := b) HFR.out HBX0.out HITS.out HM.out rfl ((HFD.out.trans HCP.out.fr).alloc _) (ItOf.nofr ⟨rfl, rfl, HCP.out.like, HCP.out.inn, HCP.out.own.mono (by have := HFR.out.size; have := HFD.out.size; omega), HCP.out.ownm.mono (by have := HFR.out.size; have := HFD.out.size; omega)⟩ ((Fr.refl NoBlk W3).alloc _)) HO4.out ho2 hg2 HGE.out)
      obtain ⟨A2, c2, rfl, _, _⟩ := own_form ho2
      have HB5 : Hid (Bk W5 gd 22 #[.slice Av m cv]) := ((HBXd.out.fr HCP.out.fr fun h => h).alloc _).fr (Fr.ofGrown hg2) (fun e => own_apart HO4.out ((HBXd.out.fr HCP.out.fr fun h => h).alloc _) (by decide) e.symm)
      have hf5 := HB5.out.free 0
      have hl5 : W5.cell? ⟨gd, 0, none⟩ = some (.slice Av m cv) := HB5.out.cell 0
      clear ho2 hg2 hb2
      refine hK _ _ ?_
      clear hK K
      try simp only [Act.put, List.setIfInBounds_toArray]
      refine wpAnyIn_ready (rs := [5]) (by kernel_rfl) (by simp) ?_
      refine AllReadyIn.cons rfl (fun K hK => ?_) AllReadyIn.nil
      go_simp
      refine hK _ _ ?_
      clear hK K
      try simp only [Act.put, List.setIfInBounds_toArray, List.set_cons_zero, List.set_cons_succ]
      refine wpAnyIn_done (by kernel_rfl) ?_ _
      gi_wp2
      refine ⟨HNX.out.1.from _, by rw [← HBE.out]; exact HNX.out.2.1, ?_⟩
      show GatI _ _ _ ((pre ++ [x]).map _) _
      rw [List.map_append]
      exact HNX.out.2.2
    · skip
      go_simp
      refine hK _ _ ?_
      clear hK K
      try simp only [Act.put, List.setIfInBounds_toArray, List.set_cons_zero, List.set_cons_succ]
      refine wpAnyIn_ready (rs := [0, 2]) (by kernel_rfl) (by simp) ?_
      refine AllReadyIn.cons rfl (fun K hK => ?_) (AllReadyIn.cons rfl (fun K hK => ?_) AllReadyIn.nil)
      · skip
        go_simp
        refine hK _ _ ?_
        clear hK K
        try simp only [Act.put, List.setIfInBounds_toArray, List.set_cons_zero, List.set_cons_succ]
        refine wpAnyIn_ready (rs := [2]) (by kernel_rfl) (by simp) ?_
        refine AllReadyIn.cons rfl (fun K hK => ?_) AllReadyIn.nil
        go_simp
        refine ⟨trivial, ?_⟩
        refine (CallsIn.inRound l' (callsIn_wide.2 (HCPD.out _ (Fr.refl _ _)))).mono ?_
        rintro e W3 ⟨b, rfl, hcp⟩
        have HCP := Lib.hid hcp
        have hld3 : W3.cell? ⟨gd, 0, none⟩ = some (.slice Av m cv) := (HBXd.out.fr hcp.fr fun h => h).cell 0
        clear hcp
        refine hK _ _ ?_
        clear hK K
        try simp only [Act.put, List.setIfInBounds_toArray, List.set_cons_zero, List.set_cons_succ]
        refine wpAnyIn_ready (rs := [3]) (by kernel_rfl) (by simp) ?_
        refine AllReadyIn.cons rfl (fun K hK => ?_) AllReadyIn.nil
        have HO4 : Hid ((W3.alloc (.cells #[.int .i64 2, .int .i64 (x.1.1 : Int), .int .i64 b.node, .int .u64 (b.epoch : Int), .int .u64 (b.seq : Int), .int .i64 b.tr, .int .i64 b.t.kind, .slice b.t.ra b.t.reads.length b.t.rc, .slice b.t.wa b.t.writes.length b.t.wc, .slice b.t.oa b.t.ops.length b.t.oc, .int .i64 b.t.to, .slice b.ma b.marks.length b.mc] 40)).ownsRow base 40 12 (.slice Av m cv) m (imsc its)) := own_fr (own_fr HOVd.out HCP.out.fr fun _ _ h => h) ((Fr.refl NoBlk _).alloc _) fun _ _ h => h
        have HS4 : Hid (Rd (W3.alloc (.cells #[.int .i64 2, .int .i64 (x.1.1 : Int), .int .i64 b.node, .int .u64 (b.epoch : Int), .int .u64 (b.seq : Int), .int .i64 b.tr, .int .i64 b.t.kind, .slice b.t.ra b.t.reads.length b.t.rc, .slice b.t.wa b.t.writes.length b.t.wc, .slice b.t.oa b.t.ops.length b.t.oc, .int .i64 b.t.to, .slice b.ma b.marks.length b.mc] 40)) (some ⟨W3.heap.size, 0, none⟩) [.int .i64 2, .int .i64 (x.1.1 : Int), .int .i64 b.node, .int .u64 (b.epoch : Int), .int .u64 (b.seq : Int), .int .i64 b.tr, .int .i64 b.t.kind, .slice b.t.ra b.t.reads.length b.t.rc, .slice b.t.wa b.t.writes.length b.t.wc, .slice b.t.oa b.t.ops.length b.t.oc, .int .i64 b.t.to, .slice b.ma b.marks.length b.mc]) := Rd.of_cells (Bk.new W3 40 #[.int .i64 2, .int .i64 (x.1.1 : Int), .int .i64 b.node, .int .u64 (b.epoch : Int), .int .u64 (b.seq : Int), .int .i64 b.tr, .int .i64 b.t.kind, .slice b.t.ra b.t.reads.length b.t.rc, .slice b.t.wa b.t.writes.length b.t.wc, .slice b.t.oa b.t.ops.length b.t.oc, .int .i64 b.t.to, .slice b.ma b.marks.length b.mc])
        have hld4 : (W3.alloc (.cells #[.int .i64 2, .int .i64 (x.1.1 : Int), .int .i64 b.node, .int .u64 (b.epoch : Int), .int .u64 (b.seq : Int), .int .i64 b.tr, .int .i64 b.t.kind, .slice b.t.ra b.t.reads.length b.t.rc, .slice b.t.wa b.t.writes.length b.t.wc, .slice b.t.oa b.t.ops.length b.t.oc, .int .i64 b.t.to, .slice b.ma b.marks.length b.mc] 40)).cell? ⟨gd, 0, none⟩ = some (.slice Av m cv) := (((HBXd.out.fr HCP.out.fr fun h => h)).alloc _).cell 0
        have HON : Hid (∀ u ∈ ([.int .i64 2, .int .i64 (x.1.1 : Int), .int .i64 b.node, .int .u64 (b.epoch : Int), .int .u64 (b.seq : Int), .int .i64 b.tr, .int .i64 b.t.kind, .slice b.t.ra b.t.reads.length b.t.rc, .slice b.t.wa b.t.writes.length b.t.wc, .slice b.t.oa b.t.ops.length b.t.oc, .int .i64 b.t.to, .slice b.ma b.marks.length b.mc] : List Value), u.oneCell' = true) := imsc_one [⟨2, x.1.1, b⟩]
        have HSZ4 : Hid (base ≤ (W3.alloc (.cells #[.int .i64 2, .int .i64 (x.1.1 : Int), .int .i64 b.node, .int .u64 (b.epoch : Int), .int .u64 (b.seq : Int), .int .i64 b.tr, .int .i64 b.t.kind, .slice b.t.ra b.t.reads.length b.t.rc, .slice b.t.wa b.t.writes.length b.t.wc, .slice b.t.oa b.t.ops.length b.t.oc, .int .i64 b.t.to, .slice b.ma b.marks.length b.mc] 40)).heap.size) := by show _ ≤ _; have h1 := HCP.out.fr.size; have h2 := HBS.out; rw [World.size_alloc]; omega
        go_simp
        refine hK _ _ ?_
        clear hK K
        try simp only [Act.put, List.setIfInBounds_toArray, List.set_cons_zero, List.set_cons_succ]
        refine wpAnyIn_ready (rs := [4]) (by kernel_rfl) (by simp) ?_
        refine AllReadyIn.cons rfl (fun K hK => ?_) AllReadyIn.nil
        refine step_appWIn rfl _ _ 22 rfl base 40 i0 _ 12 160 Try.underlying22 hi hz0 hz1 hz2 rfl (by decide) (.slice Av m cv) m (imsc its) rfl HO4.out (some ⟨W3.heap.size, 0, none⟩) 1 1 [.int .i64 2, .int .i64 (x.1.1 : Int), .int .i64 b.node, .int .u64 (b.epoch : Int), .int .u64 (b.seq : Int), .int .i64 b.tr, .int .i64 b.t.kind, .slice b.t.ra b.t.reads.length b.t.rc, .slice b.t.wa b.t.writes.length b.t.wc, .slice b.t.oa b.t.ops.length b.t.oc, .int .i64 b.t.to, .slice b.ma b.marks.length b.mc] rfl rfl HS4.out HON.out (fun h => by cases h) (by unfold maxLen; have := HMK.out; omega) (by have := HMK.out; omega) HSZ4.out ?_
        intro v2 W5 ho2 hg2 hb2
        have HNX := Lib.hid (GatI.next (p := x.1) (b := b) HFR.out HBX0.out HITS.out HM.out rfl ((HFD.out.trans HCP.out.fr).alloc _) (ItOf.nofr ⟨rfl, rfl, HCP.out.like, HCP.out.inn, HCP.out.own.mono (by have := HFR.out.size; have := HFD.out.size; omega), HCP.out.ownm.mono (by have := HFR.out.size; have := HFD.out.size; omega)⟩ ((Fr.refl NoBlk W3).alloc _)) HO4.out ho2 hg2 HGE.out)
        obtain ⟨A2, c2, rfl, _, _⟩ := own_form ho2
        have HB5 : Hid (Bk W5 gd 22 #[.slice Av m cv]) := ((HBXd.out.fr HCP.out.fr fun h => h).alloc _).fr (Fr.ofGrown hg2) (fun e => own_apart HO4.out ((HBXd.out.fr HCP.out.fr fun h => h).alloc _) (by decide) e.symm)
        have hf5 := HB5.out.free 0
        have hl5 : W5.cell? ⟨gd, 0, none⟩ = some (.slice Av m cv) := HB5.out.cell 0
        clear ho2 hg2 hb2
        refine hK _ _ ?_
        clear hK K
        try simp only [Act.put, List.setIfInBounds_toArray]
        refine wpAnyIn_ready (rs := [5]) (by kernel_rfl) (by simp) ?_
        refine AllReadyIn.cons rfl (fun K hK => ?_) AllReadyIn.nil
        go_simp
        refine hK _ _ ?_
        clear hK K
        try simp only [Act.put, List.setIfInBounds_toArray, List.set_cons_zero, List.set_cons_succ]
        refine wpAnyIn_done (by kernel_rfl) ?_ _
        gi_wp2
        refine ⟨HNX.out.1.from _, by rw [← HBE.out]; exact HNX.out.2.1, ?_⟩
        show GatI _ _ _ ((pre ++ [x]).map _) _
        rw [List.map_append]
        exact HNX.out.2.2
      · skip
        go_simp
        refine ⟨trivial, ?_⟩
        refine (CallsIn.inRound l' (callsIn_wide.2 (HCPD.out _ (Fr.refl _ _)))).mono ?_
        rintro e W3 ⟨b, rfl, hcp⟩
        have HCP := Lib.hid hcp
        have hld3 : W3.cell? ⟨gd, 0, none⟩ = some (.slice Av m cv) := (HBXd.out.fr hcp.fr fun h => h).cell 0
        clear hcp
        refine hK _ _ ?_
        clear hK K
        try simp only [Act.put, List.setIfInBounds_toArray, List.set_cons_zero, List.set_cons_succ]
        refine wpAnyIn_ready (rs := [0, 3]) (by kernel_rfl) (by simp) ?_
        refine AllReadyIn.cons rfl (fun K hK => ?_) (AllReadyIn.cons rfl (fun K hK => ?_) AllReadyIn.nil)
        · skip
          go_simp
          refine hK _ _ ?_
          clear hK K
          try simp only [Act.put, List.setIfInBounds_toArray, List.set_cons_zero, List.set_cons_succ]
          refine wpAnyIn_ready (rs := [3]) (by kernel_rfl) (by simp) ?_
          refine AllReadyIn.cons rfl (fun K hK => ?_) AllReadyIn.nil
          have HO4 : Hid ((W3.alloc (.cells #[.int .i64 2, .int .i64 (x.1.1 : Int), .int .i64 b.node, .int .u64 (b.epoch : Int), .int .u64 (b.seq : Int), .int .i64 b.tr, .int .i64 b.t.kind, .slice b.t.ra b.t.reads.length b.t.rc, .slice b.t.wa b.t.writes.length b.t.wc, .slice b.t.oa b.t.ops.length b.t.oc, .int .i64 b.t.to, .slice b.ma b.marks.length b.mc] 40)).ownsRow base 40 12 (.slice Av m cv) m (imsc its)) := own_fr (own_fr HOVd.out HCP.out.fr fun _ _ h => h) ((Fr.refl NoBlk _).alloc _) fun _ _ h => h
          have HS4 : Hid (Rd (W3.alloc (.cells #[.int .i64 2, .int .i64 (x.1.1 : Int), .int .i64 b.node, .int .u64 (b.epoch : Int), .int .u64 (b.seq : Int), .int .i64 b.tr, .int .i64 b.t.kind, .slice b.t.ra b.t.reads.length b.t.rc, .slice b.t.wa b.t.writes.length b.t.wc, .slice b.t.oa b.t.ops.length b.t.oc, .int .i64 b.t.to, .slice b.ma b.marks.length b.mc] 40)) (some ⟨W3.heap.size, 0, none⟩) [.int .i64 2, .int .i64 (x.1.1 : Int), .int .i64 b.node, .int .u64 (b.epoch : Int), .int .u64 (b.seq : Int), .int .i64 b.tr, .int .i64 b.t.kind, .slice b.t.ra b.t.reads.length b.t.rc, .slice b.t.wa b.t.writes.length b.t.wc, .slice b.t.oa b.t.ops.length b.t.oc, .int .i64 b.t.to, .slice b.ma b.marks.length b.mc]) := Rd.of_cells (Bk.new W3 40 #[.int .i64 2, .int .i64 (x.1.1 : Int), .int .i64 b.node, .int .u64 (b.epoch : Int), .int .u64 (b.seq : Int), .int .i64 b.tr, .int .i64 b.t.kind, .slice b.t.ra b.t.reads.length b.t.rc, .slice b.t.wa b.t.writes.length b.t.wc, .slice b.t.oa b.t.ops.length b.t.oc, .int .i64 b.t.to, .slice b.ma b.marks.length b.mc])
          have hld4 : (W3.alloc (.cells #[.int .i64 2, .int .i64 (x.1.1 : Int), .int .i64 b.node, .int .u64 (b.epoch : Int), .int .u64 (b.seq : Int), .int .i64 b.tr, .int .i64 b.t.kind, .slice b.t.ra b.t.reads.length b.t.rc, .slice b.t.wa b.t.writes.length b.t.wc, .slice b.t.oa b.t.ops.length b.t.oc, .int .i64 b.t.to, .slice b.ma b.marks.length b.mc] 40)).cell? ⟨gd, 0, none⟩ = some (.slice Av m cv) := (((HBXd.out.fr HCP.out.fr fun h => h)).alloc _).cell 0
          have HON : Hid (∀ u ∈ ([.int .i64 2, .int .i64 (x.1.1 : Int), .int .i64 b.node, .int .u64 (b.epoch : Int), .int .u64 (b.seq : Int), .int .i64 b.tr, .int .i64 b.t.kind, .slice b.t.ra b.t.reads.length b.t.rc, .slice b.t.wa b.t.writes.length b.t.wc, .slice b.t.oa b.t.ops.length b.t.oc, .int .i64 b.t.to, .slice b.ma b.marks.length b.mc] : List Value), u.oneCell' = true) := imsc_one [⟨2, x.1.1, b⟩]
          have HSZ4 : Hid (base ≤ (W3.alloc (.cells #[.int .i64 2, .int .i64 (x.1.1 : Int), .int .i64 b.node, .int .u64 (b.epoch : Int), .int .u64 (b.seq : Int), .int .i64 b.tr, .int .i64 b.t.kind, .slice b.t.ra b.t.reads.length b.t.rc, .slice b.t.wa b.t.writes.length b.t.wc, .slice b.t.oa b.t.ops.length b.t.oc, .int .i64 b.t.to, .slice b.ma b.marks.length b.mc] 40)).heap.size) := by show _ ≤ _; have h1 := HCP.out.fr.size; have h2 := HBS.out; rw [World.size_alloc]; omega
          go_simp
          refine hK _ _ ?_
          clear hK K
          try simp only [Act.put, List.setIfInBounds_toArray, List.set_cons_zero, List.set_cons_succ]
          refine wpAnyIn_ready (rs := [4]) (by kernel_rfl) (by simp) ?_
          refine AllReadyIn.cons rfl (fun K hK => ?_) AllReadyIn.nil
          refine step_appWIn rfl _ _ 22 rfl base 40 i0 _ 12 160 Try.underlying22 hi hz0 hz1 hz2 rfl (by decide) (.slice Av m cv) m (imsc its) rfl HO4.out (some ⟨W3.heap.size, 0, none⟩) 1 1 [.int .i64 2, .int .i64 (x.1.1 : Int), .int .i64 b.node, .int .u64 (b.epoch : Int), .int .u64 (b.seq : Int), .int .i64 b.tr, .int .i64 b.t.kind, .slice b.t.ra b.t.reads.length b.t.rc, .slice b.t.wa b.t.writes.length b.t.wc, .slice b.t.oa b.t.ops.length b.t.oc, .int .i64 b.t.to, .slice b.ma b.marks.length b.mc] rfl rfl HS4.out HON.out (fun h => by cases h) (by unfold maxLen; have := HMK.out; omega) (by have := HMK.out; omega) HSZ4.out ?_
          intro v2 W5 ho2 hg2 hb2
          have HNX := Lib.hid (GatI.next (p := x.1) (b := b) HFR.out HBX0.out HITS.out HM.out rfl ((HFD.out.trans HCP.out.fr).alloc _) (ItOf.nofr ⟨rfl, rfl, HCP.out.like, HCP.out.inn, HCP.out.own.mono (by have := HFR.out.size; have := HFD.out.size; omega), HCP.out.ownm.mono (by have := HFR.out.size; have := HFD.out.size; omega)⟩ ((Fr.refl NoBlk W3).alloc _)) HO4.out ho2 hg2 HGE.out)
          obtain ⟨A2, c2, rfl, _, _⟩ := own_form ho2
          have HB5 : Hid (Bk W5 gd 22 #[.slice Av m cv]) := ((HBXd.out.fr HCP.out.fr fun h => h).alloc _).fr (Fr.ofGrown hg2) (fun e => own_apart HO4.out ((HBXd.out.fr HCP.out.fr fun h => h).alloc _) (by decide) e.symm)
          have hf5 := HB5.out.free 0
          have hl5 : W5.cell? ⟨gd, 0, none⟩ = some (.slice Av m cv) := HB5.out.cell 0
          clear ho2 hg2 hb2
          refine hK _ _ ?_
          clear hK K
          try simp only [Act.put, List.setIfInBounds_toArray]
          refine wpAnyIn_ready (rs := [5]) (by kernel_rfl) (by simp) ?_
          refine AllReadyIn.cons rfl (fun K hK => ?_) AllReadyIn.nil
          go_simp
          refine hK _ _ ?_
          clear hK K
          try simp only [Act.put, List.setIfInBounds_toArray, List.set_cons_zero, List.set_cons_succ]
          refine wpAnyIn_done (by kernel_rfl) ?_ _
          gi_wp2
          refine ⟨HNX.out.1.from _, by rw [← HBE.out]; exact HNX.out.2.1, ?_⟩
          show GatI _ _ _ ((pre ++ [x]).map _) _
          rw [List.map_append]
          exact HNX.out.2.2
        · skip
          have HO4 : Hid ((W3.alloc (.cells #[.int .i64 2, .int .i64 (x.1.1 : Int), .int .i64 b.node, .int .u64 (b.epoch : Int), .int .u64 (b.seq : Int), .int .i64 b.tr, .int .i64 b.t.kind, .slice b.t.ra b.t.reads.length b.t.rc, .slice b.t.wa b.t.writes.length b.t.wc, .slice b.t.oa b.t.ops.length b.t.oc, .int .i64 b.t.to, .slice b.ma b.marks.length b.mc] 40)).ownsRow base 40 12 (.slice Av m cv) m (imsc its)) := own_fr (own_fr HOVd.out HCP.out.fr fun _ _ h => h) ((Fr.refl NoBlk _).alloc _) fun _ _ h => h
          have HS4 : Hid (Rd (W3.alloc (.cells #[.int .i64 2, .int .i64 (x.1.1 : Int), .int .i64 b.node, .int .u64 (b.epoch : Int), .int .u64 (b.seq : Int), .int .i64 b.tr, .int .i64 b.t.kind, .slice b.t.ra b.t.reads.length b.t.rc, .slice b.t.wa b.t.writes.length b.t.wc, .slice b.t.oa b.t.ops.length b.t.oc, .int .i64 b.t.to, .slice b.ma b.marks.length b.mc] 40)) (some ⟨W3.heap.size, 0, none⟩) [.int .i64 2, .int .i64 (x.1.1 : Int), .int .i64 b.node, .int .u64 (b.epoch : Int), .int .u64 (b.seq : Int), .int .i64 b.tr, .int .i64 b.t.kind, .slice b.t.ra b.t.reads.length b.t.rc, .slice b.t.wa b.t.writes.length b.t.wc, .slice b.t.oa b.t.ops.length b.t.oc, .int .i64 b.t.to, .slice b.ma b.marks.length b.mc]) := Rd.of_cells (Bk.new W3 40 #[.int .i64 2, .int .i64 (x.1.1 : Int), .int .i64 b.node, .int .u64 (b.epoch : Int), .int .u64 (b.seq : Int), .int .i64 b.tr, .int .i64 b.t.kind, .slice b.t.ra b.t.reads.length b.t.rc, .slice b.t.wa b.t.writes.length b.t.wc, .slice b.t.oa b.t.ops.length b.t.oc, .int .i64 b.t.to, .slice b.ma b.marks.length b.mc])
          have hld4 : (W3.alloc (.cells #[.int .i64 2, .int .i64 (x.1.1 : Int), .int .i64 b.node, .int .u64 (b.epoch : Int), .int .u64 (b.seq : Int), .int .i64 b.tr, .int .i64 b.t.kind, .slice b.t.ra b.t.reads.length b.t.rc, .slice b.t.wa b.t.writes.length b.t.wc, .slice b.t.oa b.t.ops.length b.t.oc, .int .i64 b.t.to, .slice b.ma b.marks.length b.mc] 40)).cell? ⟨gd, 0, none⟩ = some (.slice Av m cv) := (((HBXd.out.fr HCP.out.fr fun h => h)).alloc _).cell 0
          have HON : Hid (∀ u ∈ ([.int .i64 2, .int .i64 (x.1.1 : Int), .int .i64 b.node, .int .u64 (b.epoch : Int), .int .u64 (b.seq : Int), .int .i64 b.tr, .int .i64 b.t.kind, .slice b.t.ra b.t.reads.length b.t.rc, .slice b.t.wa b.t.writes.length b.t.wc, .slice b.t.oa b.t.ops.length b.t.oc, .int .i64 b.t.to, .slice b.ma b.marks.length b.mc] : List Value), u.oneCell' = true) := imsc_one [⟨2, x.1.1, b⟩]
          have HSZ4 : Hid (base ≤ (W3.alloc (.cells #[.int .i64 2, .int .i64 (x.1.1 : Int), .int .i64 b.node, .int .u64 (b.epoch : Int), .int .u64 (b.seq : Int), .int .i64 b.tr, .int .i64 b.t.kind, .slice b.t.ra b.t.reads.length b.t.rc, .slice b.t.wa b.t.writes.length b.t.wc, .slice b.t.oa b.t.ops.length b.t.oc, .int .i64 b.t.to, .slice b.ma b.marks.length b.mc] 40)).heap.size) := by show _ ≤ _; have h1 := HCP.out.fr.size; have h2 := HBS.out; rw [World.size_alloc]; omega
          go_simp
          refine hK _ _ ?_
          clear hK K
          try simp only [Act.put, List.setIfInBounds_toArray, List.set_cons_zero, List.set_cons_succ]
          refine wpAnyIn_ready (rs := [0]) (by kernel_rfl) (by simp) ?_
          refine AllReadyIn.cons rfl (fun K hK => ?_) AllReadyIn.nil
          go_simp
          refine hK _ _ ?_
          clear hK K
          try simp only [Act.put, List.setIfInBounds_toArray, List.set_cons_zero, List.set_cons_succ]
          refine wpAnyIn_ready (rs := [4]) (by kernel_rfl) (by simp) ?_
          refine AllReadyIn.cons rfl (fun K hK => ?_) AllReadyIn.nil
          refine step_appWIn rfl _ _ 22 rfl base 40 i0 _ 12 160 Try.underlying22 hi hz0 hz1 hz2 rfl (by decide) (.slice Av m cv) m (imsc its) rfl HO4.out (some ⟨W3.heap.size, 0, none⟩) 1 1 [.int .i64 2, .int .i64 (x.1.1 : Int), .int .i64 b.node, .int .u64 (b.epoch : Int), .int .u64 (b.seq : Int), .int .i64 b.tr, .int .i64 b.t.kind, .slice b.t.ra b.t.reads.length b.t.rc, .slice b.t.wa b.t.writes.length b.t.wc, .slice b.t.oa b.t.ops.length b.t.oc, .int .i64 b.t.to, .slice b.ma b.marks.length b.mc] rfl rfl HS4.out HON.out (fun h => by cases h) (by unfold maxLen; have := HMK.out; omega) (by have := HMK.out; omega) HSZ4.out ?_
          intro v2 W5 ho2 hg2 hb2
          have HNX := Lib.hid (GatI.next (p := x.1) (b := b) HFR.out HBX0.out HITS.out HM.out rfl ((HFD.out.trans HCP.out.fr).alloc _) (ItOf.nofr ⟨rfl, rfl, HCP.out.like, HCP.out.inn, HCP.out.own.mono (by have := HFR.out.size; have := HFD.out.size; omega), HCP.out.ownm.mono (by have := HFR.out.size; have := HFD.out.size; omega)⟩ ((Fr.refl NoBlk W3).alloc _)) HO4.out ho2 hg2 HGE.out)
          obtain ⟨A2, c2, rfl, _, _⟩ := own_form ho2
          have HB5 : Hid (Bk W5 gd 22 #[.slice Av m cv]) := ((HBXd.out.fr HCP.out.fr fun h => h).alloc _).fr (Fr.ofGrown hg2) (fun e => own_apart HO4.out ((HBXd.out.fr HCP.out.fr fun h => h).alloc _) (by decide) e.symm)
          have hf5 := HB5.out.free 0
          have hl5 : W5.cell? ⟨gd, 0, none⟩ = some (.slice Av m cv) := HB5.out.cell 0
          clear ho2 hg2 hb2
          refine hK _ _ ?_
          clear hK K
          try simp only [Act.put, List.setIfInBounds_toArray]
          refine wpAnyIn_ready (rs := [5]) (by kernel_rfl) (by simp) ?_
          refine AllReadyIn.cons rfl (fun K hK => ?_) AllReadyIn.nil
          go_simp
          refine hK _ _ ?_
          clear hK K
          try simp only [Act.put, List.setIfInBounds_toArray, List.set_cons_zero, List.set_cons_succ]
          refine wpAnyIn_done (by kernel_rfl) ?_ _
          gi_wp2
          refine ⟨HNX.out.1.from _, by rw [← HBE.out]; exact HNX.out.2.1, ?_⟩
          show GatI _ _ _ ((pre ++ [x]).map _) _
          rw [List.map_append]
          exact HNX.out.2.2
  case done =>
    rintro D ys W hD hS hI hK
    obtain ⟨v, its, hb, ho, hits⟩ := hI.box
    have hc1 : W.cell? ⟨gd, 0, none⟩ = some v := hb.cell 0
    have hgo := hI.others (by have := HGE.out; omega) (grownBy_putObj' W D (.deferred none)) (fun r e => by cases e; exact ⟨by have := HBE.out; omega, _, hK, rfl⟩)
    have HGO := Lib.hid hgo
    have HO := Lib.hid (own_others ho (grownBy_putObj' W D (.deferred none)) (fun r e => by cases e; exact ⟨_, hK, rfl⟩))
    have HIT : Hid (ItsOf (W.putObj D (.deferred none)) w.heap.size its (ys.map (fun (x : PcX xs) => x.1))) := ⟨hits.1, fun j i p h1 h2 => (hits.2 j i p h1 h2).others (grownBy_putObj' W D (.deferred none)) (fun r e => by cases e; exact ⟨_, hK, rfl⟩)⟩
    have HKD := Lib.hid hK
    have HSS := Lib.hid hS
    obtain ⟨Av, cv, rfl, _, _⟩ := own_form ho
    clear hI hb ho hits hK hgo hS hD
    obtain ⟨m, hm⟩ : ∃ m, m = (ys.map (fun (x : PcX xs) => x.1)).length := ⟨_, rfl⟩
    have HM := Lib.hid hm
    rw [← hm] at hc1
    clear hm
    gi_wp2
    refine ⟨by simp, .inl ⟨_, _, rfl, run_takeDeferred HKD.out, ?_⟩⟩
    have h1 := HO.out
    have h2 := HIT.out
    rw [← HM.out] at h1
    have h3 : m = (pcs rg xs xs.length).length := by rw [HM.out, ← HSS.out]
    rw [HSS.out] at h2
    refine ⟨_, results_tmp rfl _ _ _, Av, cv, its, by rw [← h3]; rfl, ?_, h2, HGO.out.fr⟩
    rw [← h3]
    exact own_base h1 (by have := HGE.out; omega)
  case stop =>
    rintro D c' pre W hD hS hF hK
    exact hF.elim
end Go.Proofs.Ytdgjjkmgdjiliaa
