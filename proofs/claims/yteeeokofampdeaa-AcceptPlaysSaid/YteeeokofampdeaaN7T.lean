/- The values of a tree, of several cells each, as a list of their own; what is gathered in a box by a loop over a function. Conditions: at most 100000 keys. -/
import Derived.RangeFuncNested
import Derived.Test.YteeeokofampdeaaN5T

namespace Go.Proofs.Yteeeokofampdeaa
open Go.RowKit Go.Shelf
attribute [local go_sem] Oper.semAt_some
theorem Bk.others {w w' : World} {g : Nat} {t : TypeId} {cs : Array Value} {row : Option Nat} (h : Bk w g t cs) (hg : w.grownBy w' row) (hr : ∀ r, row = some r → ∃ o : Obj, w.heap[r]? = some o ∧ o.isCells = false) : Bk w' g t cs :=
  h.fr (Fr.ofGrown hg) fun e => by
    obtain ⟨o, ho, hc⟩ := hr g e.symm
    unfold Bk at h
    rw [h] at ho
    injection ho with ho
    rw [← ho] at hc
    cases hc
theorem own_others {w w' : World} {base : Nat} {e : TypeId} {size n : Nat} {v : Value} {xs : List Value} {row : Option Nat} (h : w.ownsRow base e size v n xs) (hg : w.grownBy w' row) (hr : ∀ r, row = some r → ∃ o : Obj, w.heap[r]? = some o ∧ o.isCells = false) : w'.ownsRow base e size v n xs :=
  own_fr h (Fr.ofGrown hg) fun k hk e => by
    obtain ⟨o, ho, hc⟩ := hr k e.symm
    rcases h.2 with ⟨rfl, _⟩ | ⟨g, cap, cur, rfl, _, hh, _⟩
    · cases hk
    · have e1 : g = k := by simpa [Value.ownBlock] using hk
      subst e1
      rw [hh] at ho
      injection ho with ho
      rw [← ho] at hc
      cases hc
theorem run_appW {P : Program} (w : World) (base : Nat) (t ty e : TypeId) (i : TypeInfo) (z : Value) (size bytes : Nat) (ht : P.underlying t = some (.slice e)) (hi : P.info? e = some i) (hz : i.zero = some z)
    (hsize : i.size = size) (hby : i.bytes = bytes) (hzs : z.cells.size = size) (hpos : 0 < size)
    (v : Value) (n : Nat) (xs : List Value) (hown : w.ownsRow base e size v n xs)
    (A : Option Addr) (c m : Nat) (news : List Value) (hm : news.length = m * size) (hr : Rd w A news) (h1 : ∀ u ∈ news, u.oneCell' = true)
    (hA : A = none → c = 0)
    (h63 : n + m ≤ maxLen) (hbytes : (n + m) * bytes ≤ 140737488355328) (hbase : base ≤ w.heap.size) :
    ∃ v' w', (Builtin.append_ #[t, t] ty #[v, .slice A m c]).run P w = .ok v' w' ∧ w'.ownsRow base e size v' (n + m) (xs ++ news) ∧ w.grownBy w' v.ownBlock ∧
      (v'.ownBlock = v.ownBlock ∨ v'.ownBlock = some w.heap.size) := by
  rcases A with _ | ad
  · have hn : news = [] := by
      rcases Nat.eq_zero_or_pos news.length with h0 | h0
      · exact List.eq_nil_of_length_eq_zero h0
      · obtain ⟨_, _, h, _⟩ := hr h0
        cases h
    subst hn
    obtain rfl := hA rfl
    obtain rfl : m = 0 := by
      rcases Nat.eq_zero_or_pos m with h0 | h0
      · exact h0
      · have := Nat.mul_pos h0 hpos
        simp only [List.length_nil] at hm
        omega
    exact ⟨v, w, run_append_owned_none w base t ty e i size ht hi v n xs hown, by simpa using hown, World.grownBy.refl w _, .inl rfl⟩
  · obtain ⟨v', w', h2, h3, h4, _, h6⟩ := run_append_own_at (P := P) w base t ty e i z size bytes ht hi hz hsize hby hzs hpos v n xs hown ad m c news hm
      (fun j u hu => by
        obtain ⟨b, o, e', hc⟩ := hr (by have := (List.getElem?_eq_some_iff.1 hu).1; omega)
        injection e' with e'
        subst e'
        have := hc j u hu
        unfold Addr.add
        split
        · subst j; simpa using this
        · exact this) h1 h63 hbytes hbase
    exact ⟨v', w', h2, h3, h4, h6⟩

/-- append to a row of the call's own inside a fence. -/
theorem wpListIn_appW {F : Fence} {nF : Nat} {P : Program} {w : World} {ops : Array Oper} {rest : List Oper} {o : Oper} {a : Act} {Q : Exit → Act → World → Prop} (hgd : o.guard = none) (s x : Operand) (t : TypeId)
    (ho : o.op = .call { callee := .builtin .append, args := #[s, x], argTypes := #[t, t] })
    (base : Nat) (e : TypeId) (i : TypeInfo) (z : Value) (size bytes : Nat) (ht : P.underlying t = some (.slice e)) (hi : P.info? e = some i) (hz : i.zero = some z)
    (hsize : i.size = size) (hby : i.bytes = bytes) (hzs : z.cells.size = size) (hpos : 0 < size)
    (v : Value) (n : Nat) (xs : List Value) (hs : a.eval s = v) (hown : w.ownsRow base e size v n xs)
    (A : Option Addr) (c m : Nat) (news : List Value) (hx : a.eval x = .slice A m c) (hm : news.length = m * size) (hr : Rd w A news) (h1 : ∀ u ∈ news, u.oneCell' = true)
    (hA : A = none → c = 0)
    (h63 : n + m ≤ maxLen) (hbytes : (n + m) * bytes ≤ 140737488355328) (hbase : base ≤ w.heap.size)
    (h : ∀ v' w', w'.ownsRow base e size v' (n + m) (xs ++ news) → w.grownBy w' v.ownBlock → (v'.ownBlock = v.ownBlock ∨ v'.ownBlock = some w.heap.size) →
      wpListIn F nF P ops Q rest (a.put o.dst v') w') : wpListIn F nF P ops Q (o :: rest) a w :=
  wpListIn_plain hgd fun K hK => by
    obtain ⟨v', w', hrun, h2, h3, h5⟩ := run_appW (P := P) w base t o.type e i z size bytes ht hi hz hsize hby hzs hpos v n xs hown A c m news hm hr h1 hA h63 hbytes hbase
    unfold Oper.wpIn
    refine ⟨by simp [Oper.about, ho, resolve, Target.leads, Sem.run_pure], ?_⟩
    rw [Oper.semAt_plain F _ _ (by rw [ho]; intro c hc'; cases hc')]
    simp [execOp, ho, resolve, invoke, builtin, hs, hx, hrun, Result.andThen]
    exact hK _ _ (h v' w' h2 h3 h5)
/-- between two rounds: what has been gathered lies behind the box gm; the boxes Bx are the iterator's. -/
structure GatV (w : World) (T E : TypeId) (gm : Nat) (Bx : Nat → Prop) (size n : Nat) (L : List Value) (W : World) : Prop where
  box : ∃ v, Bk W gm T #[v] ∧ W.ownsRow w.heap.size E size v n L
  ib : ∀ b, Bx b → ∃ X u, Bk W b X #[u] ∧ E ≠ X ∧ X ≠ T
  fr : Fr NoBlk w W
  ge : w.heap.size ≤ gm
theorem GatV.others {w W W' : World} {T E : TypeId} {gm : Nat} {Bx : Nat → Prop} {size n : Nat} {L : List Value} {row : Option Nat} (h : GatV w T E gm Bx size n L W) (hg : W.grownBy W' row) (hr : ∀ r, row = some r → w.heap.size ≤ r ∧ ∃ o : Obj, W.heap[r]? = some o ∧ o.isCells = false) : GatV w T E gm Bx size n L W' := by
  obtain ⟨v, hb, ho⟩ := h.box
  refine ⟨⟨v, hb.others hg fun r e => (hr r e).2, own_others ho hg fun r e => (hr r e).2⟩, fun b hb => ?_, h.fr.grown hg (fun r e hl => by have := (hr r e).1; omega), h.ge⟩
  obtain ⟨X, u, h1, h2⟩ := h.ib b hb
  exact ⟨X, u, h1.others hg fun r e => (hr r e).2, h2⟩
theorem GatV.next {w W W2 : World} {T E : TypeId} {gm : Nat} {Bx : Nat → Prop} {size n : Nat} {L : List Value} (h : GatV w T E gm Bx size n L W) {v v2 : Value} (hb : Bk W gm T #[v]) {o : Obj} (ho : (W.alloc o).ownsRow w.heap.size E size v n L) (u : List Value)
    (ho2 : W2.ownsRow w.heap.size E size v2 (n + 1) (L ++ u)) (hg : (W.alloc o).grownBy W2 v.ownBlock) (hET : E ≠ T) {K : Nat → Prop} (hK : ∀ b, K b → b < w.heap.size ∨ Bx b) :
    KeepsOthers W (W2.setCell ⟨gm, 0, none⟩ v2) ∧ Keep K W (W2.setCell ⟨gm, 0, none⟩ v2) ∧ GatV w T E gm Bx size (n + 1) (L ++ u) (W2.setCell ⟨gm, 0, none⟩ v2) := by
  have hf1 : Fr NoBlk W (W.alloc o) := (Fr.refl _ _).alloc _
  have hbA : Bk (W.alloc o) gm T #[v] := hb.alloc o
  have n1 : some gm ≠ v.ownBlock := fun e => own_apart ho hbA hET e.symm
  have hb2 : Bk W2 gm T #[v] := hbA.fr (Fr.ofGrown hg) n1
  have n3 : v2.ownBlock ≠ some gm := own_apart ho2 hb2 hET
  have hfs : Fr (fun i => i = gm) W2 (W2.setCell ⟨gm, 0, none⟩ v2) := (Fr.refl (fun i => i = gm) W2).setCell (p := ⟨gm, 0, none⟩) (fun _ => rfl) _
  have hall : Fr (fun i => i = gm ∨ some i = v.ownBlock) W (W2.setCell ⟨gm, 0, none⟩ v2) :=
    ((hf1.mono (D := fun i => i = gm ∨ some i = v.ownBlock) fun _ _ h => h.elim).step (Fr.ofGrown hg) fun _ _ e => .inr e).step hfs fun _ _ e => .inl e
  have hlow : ∀ i, some i = v.ownBlock → w.heap.size ≤ i := fun i e => by
    rcases ho.2 with ⟨rfl, _⟩ | ⟨g', cap, cur, rfl, hbb, _⟩
    · cases e
    · have e1 : i = g' := by simpa [Value.ownBlock] using e
      omega
  have hbx : ∀ b, Bx b → b ≠ gm ∧ some b ≠ v.ownBlock ∧ ∃ X u, Bk W b X #[u] ∧ E ≠ X ∧ X ≠ T := fun b hbb => by
    obtain ⟨X, u, h1, h2, h3⟩ := h.ib b hbb
    exact ⟨h1.apart hb h3, fun e => own_apart ho (h1.alloc o) h2 e.symm, X, u, h1, h2, h3⟩
  have hge := h.ge
  have hsz := h.fr.size
  refine ⟨((KeepsOthers.alloc W o).trans (KeepsOthers.of_grownBy hg fun j o' e hj => ?_)).trans (KeepsOthers.setCell _ _ _), fun i hi => ?_, ⟨⟨v2, ?_, ?_⟩, fun b hbb => ?_, h.fr.step hall (fun i hi e => ?_), h.ge⟩⟩
  · rcases ho.2 with ⟨rfl, _⟩ | ⟨g, cap, cur, rfl, _, hh, _⟩
    · cases e
    · have e1 : g = j := by simpa [Value.ownBlock] using e
      subst e1
      rw [hh] at hj
      injection hj with hj
      rw [← hj]
      rfl
  · rcases hK i hi with h1 | h1
    · exact hall.block i (by omega) fun e => by
        rcases e with e | e
        · omega
        · have := hlow i e; omega
    · obtain ⟨m1, m2, X, u, m3, _⟩ := hbx i h1
      exact hall.block i m3.lt fun e => by
        rcases e with e | e
        · exact m1 e
        · exact m2 e
  · have h := hb2.put 0 v2
    simpa using h
  · exact own_fr ho2 hfs fun i hi e => n3 (e ▸ hi)
  · obtain ⟨m1, m2, X, u, m3, m4⟩ := hbx b hbb
    exact ⟨X, u, m3.fr hall fun e => by
      rcases e with e | e
      · exact m1 e
      · exact m2 e, m4⟩
  · rcases e with e | e
    · omega
    · have := hlow i e; omega
/-- a value's cells. -/
def valcT (x : ItT) : List Value := [.int .i64 x.2.slot, .int .u64 (x.2.bal : Int), .string (bstr x.2.val)]
def valsT (xs : List ItT) : List Value := xs.flatMap valcT
theorem valsT_snoc (xs : List ItT) (x : ItT) : valsT (xs ++ [x]) = valsT xs ++ [.int .i64 x.2.slot, .int .u64 (x.2.bal : Int), .string (bstr x.2.val)] := by
  unfold valsT
  rw [List.flatMap_append]
  simp [valcT]
theorem vinfoT : (Try.prog.info? 43).map (fun i => (i.zero, i.size, i.bytes)) = some (some (.agg #[.int .i64 0, .int .u64 0, .string { data := #[] }] : Value), 3, 32) := by kernel_rfl
set_option maxRecDepth 100000 in
set_option maxHeartbeats 1000000 in
theorem treeValuesT_any (w : World) (g : Nat) (O : Nat → Prop) (xs : List ItT) (h : TreeT w g O xs) (hlen : xs.length ≤ 100000) :
    Calls Try.prog 25 #[.pointer (some ⟨g, 0, none⟩)] w fun e w' => ∃ A c, e = .returned (.slice A xs.length c) ∧ w'.ownsRow w.heap.size 43 3 (.slice A xs.length c) xs.length (valsT xs) ∧ Fr NoBlk w w' := by
  obtain ⟨i0, hi, hz0, hz1, hz2⟩ := info_parts vinfoT
  obtain ⟨n, hn⟩ : ∃ n, n = xs.length := ⟨_, rfl⟩
  obtain ⟨w1, hmk, ho1, hg1⟩ := run_make_own (P := Try.prog) w w.heap.size 36 43 i0 (.agg #[.int .i64 0, .int .u64 0, .string { data := #[] }] : Value) 3 Try.underlying36 hi hz0 hz1 .i64 .i64 n (by rw [hz2]; omega) (by unfold maxLen; omega) (Nat.le_refl _)
  have hf1 : Fr NoBlk w w1 := (Fr.ofGrown hg1).mono fun _ _ e => by cases e
  have c1 : w.cell? ⟨g, 1, none⟩ = some (.int .i64 n) := by
    obtain ⟨d, t, h1, _⟩ := h
    rw [hn]
    exact h1.cell 1
  have HT := Lib.hid h
  have HN := Lib.hid hn
  have HLEN := Lib.hid hlen
  have HO1 := Lib.hid ho1
  have HF1 := Lib.hid hf1
  clear h hn hlen ho1 hg1 hf1
  refine (callsIn_wide (n := 9)).1 ?_
  refine callsIn_of_wp_marks Try.func25 rfl trivial ?_ rfl
  simp only [Try.ntmps25, List.size_toArray, List.length_cons, List.length_nil, Nat.reduceAdd, Nat.reduceSub, Array.replicate_succ, Array.replicate_zero, List.push_toArray, List.append_toArray, List.nil_append, List.cons_append]
  gi_wp2
  refine ⟨trivial, (callsIn_wide.2 (treeAllT_any _ g)).mono ?_⟩
  rintro e w5 ⟨rfl, hw5⟩
  obtain ⟨gm, hgm⟩ : ∃ gm, gm = w1.heap.size := ⟨_, rfl⟩
  have hsz4 : (w1.alloc (.cells #[.slice (some ⟨w.heap.size, 0, none⟩) 0 n] 36)).heap.size = gm + 1 := by rw [World.size_alloc, hgm]
  rw [hsz4]
  have hb50 : Bk w5 gm 36 #[.slice (some ⟨w.heap.size, 0, none⟩) 0 n] := by rw [hw5, hgm]; exact (Bk.new _ _ _).alloc _
  have hb51 : Bk w5 (gm + 1) 64 #[.pointer (some ⟨g, 0, none⟩)] := by rw [hw5, ← hsz4]; exact Bk.new _ _ _
  have hf15 : Fr NoBlk w1 w5 := by rw [hw5]; exact ((Fr.refl NoBlk w1).alloc _).alloc _
  have hf5 : Fr NoBlk w w5 := HF1.out.trans hf15
  have HGE : Hid (w.heap.size ≤ gm ∧ w.heap.size ≤ w5.heap.size) := ⟨by rw [hgm]; exact HF1.out.size, hf5.size⟩
  have HI0 : Hid (GatV w 36 43 gm (fun b => b = gm + 1) 3 0 [] w5) := ⟨⟨_, hb50, own_fr HO1.out hf15 fun _ _ e => e⟩, fun b e => (by subst e; exact ⟨_, _, hb51, by decide, by decide⟩), hf5, HGE.out.1⟩
  have HOL : Hid (∀ b, O b → b < w.heap.size) := fun b hb => HT.out.lt hb
  have HST := Lib.hid (allT_stops 8 (gm + 1) (fun b => O b ∨ b = gm + 1) w5 g O xs (HT.out.nofr hf5) (fun _ => Iff.rfl) hb51.lt (hb51.cell 0))
  have hKK : ∀ k, (O k ∨ k = gm + 1) → k < w5.heap.size := fun k hk => by
    rcases hk with hk | rfl
    · have := HOL.out k hk
      have := HGE.out.2
      omega
    · exact hb51.lt
  rw [← hgm]
  clear hb50 hb51 hf15 hf5 hgm hsz4 hw5 c1 hmk
  gi_wp2
  refine wpIn_rangeFunc_ownH rfl (by omega) (gf := 47) (lb := #[.pointer (some ⟨gm + 1, 0, none⟩)]) rfl trivial (enters_of Try.func47 (by kernel_rfl) rfl)
    HST.out (fun h k => h.t k) (Keep.b hKK) (Below.refl _ _) (fun _ => rfl)
    (fun (pre : List ItT) W => GatV w 36 43 gm (fun b => b = gm + 1) 3 pre.length (valsT pre) W)
    (fun _ _ _ => False)
    (fun s W W' row hs hg hr => hs.others hg fun r e => ⟨by have := (hr r e).1; have := HGE.out.2; omega, (hr r e).2⟩)
    (fun _ _ _ _ _ hs _ _ => hs)
    HI0.out
    (fun x a' W => ∃ q, w.heap.size ≤ q ∧ Bk W q 43 #[.int .i64 x.2.slot, .int .u64 (x.2.bal : Int), .string (bstr x.2.val)] ∧ a' = { tmps := #[.pointer (some ⟨g, 0, none⟩), undef, .slice none 0 0, .pointer (some ⟨gm, 0, none⟩), undef, .pointer (some ⟨q, 0, none⟩), .pointer (some ⟨g, 0, none⟩), .pointer (some ⟨g, 0, none⟩), .pointer (some ⟨g, 1, none⟩), .int .i64 n, .slice (some ⟨w.heap.size, 0, none⟩) 0 n, .pointer (some ⟨g, 0, none⟩), .func (.func 47) #[] #[.pointer (some ⟨gm + 1, 0, none⟩)], .int .i64 x.1, .agg #[.int .i64 x.2.slot, .int .u64 (x.2.bal : Int), .string (bstr x.2.val)], undef, undef, undef, undef, undef], defers := [] })
    (fun x a' _ W W' row hs hg hr => by obtain ⟨q, h1, h2, h3⟩ := hs; exact ⟨q, h1, h2.others hg fun r e => (hr r e).2, h3⟩) ?assign ?body ?done ?stop
  case assign =>
    intro l' pre x W K hI hK
    simp [encT]
    gi_wp2
    have hgr := World.grownBy_alloc W (.cells #[.int .i64 x.2.slot, .int .u64 (x.2.bal : Int), .string (bstr x.2.val)] 43) none
    refine hK _ _ ((KeepsOthers.alloc W _).from _) (((Fr.refl NoBlk W).alloc _).keep fun k hk => ⟨?_, fun e => e⟩) (hI.others hgr fun r e => by cases e) ⟨W.heap.size, hI.fr.size, Bk.new _ _ _, rfl⟩
    rcases hk with hk | hk
    · exact Nat.lt_of_lt_of_le (HOL.out k hk) hI.fr.size
    · obtain ⟨X, u, h1, _⟩ := hI.ib k hk
      exact h1.lt
  case body =>
    rintro l' pre x a' W _ _ hI ⟨q, hql, hqb, rfl⟩ hlen
    have HI := Lib.hid hI
    obtain ⟨v, hbx, hov⟩ := hI.box
    obtain ⟨Av, cv, rfl, hcv, hAv⟩ := own_form hov
    have hc1 := hbx.cell 0
    obtain ⟨k, hk⟩ : ∃ k, k = pre.length := ⟨_, rfl⟩
    have hkp : k = pre.length := hk
    rw [← hk] at hc1 hov hcv
    have HBX : Hid (Bk W gm 36 #[.slice Av k cv]) := by show Bk _ _ _ _; rw [hk]; exact hbx
    have HOV := Lib.hid hov
    have HKM := Lib.hid hk
    have HLK : Hid (k < 100000) := by show k < 100000; have := HLEN.out; omega
    have HWS : Hid (w.heap.size ≤ W.heap.size) := hI.fr.size
    have HKK := Lib.hid hKK
    clear hI hbx hov hk hkp hKK hlen hcv hAv
    have hfz := HBX.out.free 0
    obtain ⟨xk, xv⟩ := x
    have HQB : Hid (Bk W q 43 #[.int .i64 xv.slot, .int .u64 (xv.bal : Int), .string (bstr xv.val)]) := hqb
    have e0 : W.cell? ⟨q, 0, none⟩ = some (.int .i64 xv.slot) := HQB.out.cell 0
    have e1 : W.cell? ⟨q, 1, none⟩ = some (.int .u64 (xv.bal : Int)) := HQB.out.cell 1
    have e2 : W.cell? ⟨q, 2, none⟩ = some (.string (bstr xv.val)) := HQB.out.cell 2
    clear hqb hql
    have HOV2 : Hid ((W.alloc (.cells #[.int .i64 xv.slot, .int .u64 (xv.bal : Int), .string (bstr xv.val)] 43)).ownsRow w.heap.size 43 3 (.slice Av k cv) k (valsT pre)) := own_fr HOV.out ((Fr.refl NoBlk W).alloc _) fun _ _ h => h
    have HSRC : Hid (Rd (W.alloc (.cells #[.int .i64 xv.slot, .int .u64 (xv.bal : Int), .string (bstr xv.val)] 43)) (some ⟨W.heap.size, 0, none⟩) [.int .i64 xv.slot, .int .u64 (xv.bal : Int), .string (bstr xv.val)]) := Rd.of_cells (Bk.new W 43 #[.int .i64 xv.slot, .int .u64 (xv.bal : Int), .string (bstr xv.val)])
    gi_wp2_with (first | (gi_at_builtin; go_loud (refine wpListIn_appW rfl _ _ 36 rfl w.heap.size 43 i0 (.agg #[.int .i64 0, .int .u64 0, .string { data := #[] }] : Value) 3 32 Try.underlying36 hi hz0 hz1 hz2 rfl (by decide) (.slice Av k cv) k (valsT pre) rfl HOV2.out (some ⟨W.heap.size, 0, none⟩) 1 1 [.int .i64 xv.slot, .int .u64 (xv.bal : Int), .string (bstr xv.val)] rfl rfl HSRC.out (by intro y hy; simp only [List.mem_cons, List.not_mem_nil, or_false] at hy; rcases hy with rfl | rfl | rfl <;> rfl) (fun h => by cases h) (by unfold maxLen; have := HLK.out; omega) (by have := HLK.out; omega) (by have := HWS.out; rw [World.size_alloc]; omega) ?_); intro v2 W2 ho2 hg2 hb2; obtain ⟨A2, c2, rfl, _, _⟩ := own_form ho2; have hbx2 := Lib.hid ((HBX.out.alloc (.cells #[.int .i64 xv.slot, .int .u64 (xv.bal : Int), .string (bstr xv.val)] 43)).fr (Fr.ofGrown hg2) (fun e => own_apart HOV2.out (HBX.out.alloc (.cells #[.int .i64 xv.slot, .int .u64 (xv.bal : Int), .string (bstr xv.val)] 43)) (by decide) e.symm)); have hld := hbx2.out.cell 0; have hfz2 := hbx2.out.free 0; have HO2 := Lib.hid ho2; have HG2 := Lib.hid hg2; clear ho2 hg2 hb2) | gi_in)
    have HNX := Lib.hid (GatV.next HI.out HBX.out (n := pre.length) (HKM.out ▸ HOV2.out) [.int .i64 xv.slot, .int .u64 (xv.bal : Int), .string (bstr xv.val)] (HKM.out ▸ HO2.out) HG2.out (by decide) (K := fun b => O b ∨ b = gm + 1) (fun b hb => by
      rcases hb with hb | hb
      · exact .inl (HOL.out b hb)
      · exact .inr hb))
    rw [show k = pre.length from HKM.out]
    refine ⟨HNX.out.1.from _, HNX.out.2.1, ?_⟩
    show GatV _ _ _ _ _ _ _ (valsT (pre ++ [(xk, xv)])) _
    rw [valsT_snoc, List.length_append]
    exact HNX.out.2.2
  case done =>
    rintro D ys W hD rfl hI hK
    obtain ⟨v, hb, ho⟩ := hI.box
    have hc1 : W.cell? ⟨gm, 0, none⟩ = some v := hb.cell 0
    have HD := Lib.hid hD
    have HO := Lib.hid ho
    have HI := Lib.hid hI
    have HKD := Lib.hid hK
    obtain ⟨Av, cv, rfl, _, _⟩ := own_form ho
    clear hI hb ho hD hK
    obtain ⟨k, hk⟩ : ∃ k, k = ys.length := ⟨_, rfl⟩
    have HKN := Lib.hid hk
    rw [← hk] at hc1
    clear hk
    gi_wp2
    refine ⟨by simp, .inl ⟨_, _, rfl, run_takeDeferred HKD.out, ?_⟩⟩
    refine ⟨_, results_tmp rfl _ _ _, Av, cv, by rw [← HKN.out]; rfl, ?_, HI.out.fr.grown (grownBy_putObj' W D _) fun r e hl => ?_⟩
    · have h := own_others HO.out (grownBy_putObj' W D (.deferred none)) (fun r e => by cases e; exact ⟨_, HKD.out, rfl⟩)
      exact h
    · cases e
      have := HD.out
      have := HGE.out.2
      omega
  case stop =>
    rintro D c' pre W _ _ h _
    exact h.elim
end Go.Proofs.Yteeeokofampdeaa
