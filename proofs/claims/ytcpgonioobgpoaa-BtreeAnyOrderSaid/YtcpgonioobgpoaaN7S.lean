/- The keys of a tree, and its values, as lists of their own. Conditions: at most 100000 keys. -/
import Derived.Test.YtcpgonioobgpoaaN5S

namespace Go.Proofs.Ytcpgonioobgpoaa
open Go.RowKit Go.Shelf
attribute [local go_sem] Oper.semAt_some
theorem Bk.others {w w' : World} {g : Nat} {t : TypeId} {cs : Array Value} {row : Option Nat} (h : Bk w g t cs) (hg : w.grownBy w' row) (hr : ∀ r, row = some r → ∃ o : Obj, w.heap[r]? = some o ∧ o.isCells = false) : Bk w' g t cs :=
  h.fr (Fr.ofGrown hg) fun e => by
    obtain ⟨o, ho, hc⟩ := hr g e.symm
    unfold Bk at h
    rw [h] at ho
    injection ho with ho
    rw [← ho] at hc
    cases hc
theorem own_others {w w' : World} {base : Nat} {e : TypeId} {size n : Nat} {v : Value} {xs : List Value} {row : Option Nat} (h : w.ownsRow base e size v n xs) (hg : w.grownBy w' row) (hr : ∀ r, row = some r → ∃ o : Obj, w.heap[r]? = some o ∧ o.isCells = false) : w'.ownsRow base e size v n xs :=
  own_fr h (Fr.ofGrown hg) fun k hk e => by
    obtain ⟨o, ho, hc⟩ := hr k e.symm
    rcases h.2 with ⟨rfl, _⟩ | ⟨g, cap, cur, rfl, _, hh, _⟩
    · cases hk
    · have e1 : g = k := by simpa [Value.ownBlock] using hk
      subst e1
      rw [hh] at ho
      injection ho with ho
      rw [← ho] at hc
      cases hc
/-- append to a row of the call's own inside a fence. -/
theorem wpListIn_app {F : Fence} {nF : Nat} {P : Program} {w : World} {ops : Array Oper} {rest : List Oper} {o : Oper} {a : Act} {Q : Exit → Act → World → Prop} (hgd : o.guard = none) (s x : Operand) (t : TypeId)
    (ho : o.op = .call { callee := .builtin .append, args := #[s, x], argTypes := #[t, t] })
    (base : Nat) (e : TypeId) (i : TypeInfo) (z : Value) (bytes : Nat) (ht : P.underlying t = some (.slice e)) (hi : P.info? e = some i) (hz : i.zero = some z)
    (hsize : i.size = 1) (hby : i.bytes = bytes) (hzs : z.cells.size = 1)
    (v : Value) (n : Nat) (xs : List Value) (hs : a.eval s = v) (hown : w.ownsRow base e 1 v n xs)
    (A : Option Addr) (c m : Nat) (news : List Value) (hx : a.eval x = .slice A m c) (hm : news.length = m) (hr : Rd w A news) (h1 : ∀ u ∈ news, u.oneCell' = true)
    (hA : A = none → c = 0)
    (h63 : n + m ≤ maxLen) (hbytes : (n + m) * bytes ≤ 140737488355328) (hbase : base ≤ w.heap.size)
    (h : ∀ v' w', w'.ownsRow base e 1 v' (n + m) (xs ++ news) → w.grownBy w' v.ownBlock → (v' = .slice none 0 0 ↔ v = .slice none 0 0 ∧ m = 0) → (v'.ownBlock = v.ownBlock ∨ v'.ownBlock = some w.heap.size) →
      wpListIn F nF P ops Q rest (a.put o.dst v') w') : wpListIn F nF P ops Q (o :: rest) a w :=
  wpListIn_plain hgd fun K hK => by
    obtain ⟨v', w', hrun, h2, h3, h4, h5⟩ := run_app (P := P) w base t o.type e i z bytes ht hi hz hsize hby hzs v n xs hown A c m news hm hr h1 hA h63 hbytes hbase
    unfold Oper.wpIn
    refine ⟨by simp [Oper.about, ho, resolve, Target.leads, Sem.run_pure], ?_⟩
    rw [Oper.semAt_plain F _ _ (by rw [ho]; intro c hc'; cases hc')]
    simp [execOp, ho, resolve, invoke, builtin, hs, hx, hrun, Result.andThen]
    exact hK _ _ (h v' w' h2 h3 h4 h5)
/-- between two rounds: what has been gathered lies behind the box gm; the iterator's box is bx. -/
structure GatAt (w : World) (T E X : TypeId) (gm bx : Nat) (bv : Value) (L : List Value) (W : World) : Prop where
  box : ∃ v, Bk W gm T #[v] ∧ W.ownsRow w.heap.size E 1 v L.length L
  ib : Bk W bx X #[bv]
  fr : Fr NoBlk w W
  ge : w.heap.size ≤ gm
theorem GatAt.others {w W W' : World} {T E X : TypeId} {gm bx : Nat} {bv : Value} {L : List Value} {row : Option Nat} (h : GatAt w T E X gm bx bv L W) (hg : W.grownBy W' row) (hr : ∀ r, row = some r → w.heap.size ≤ r ∧ ∃ o : Obj, W.heap[r]? = some o ∧ o.isCells = false) : GatAt w T E X gm bx bv L W' := by
  obtain ⟨v, hb, ho⟩ := h.box
  exact ⟨⟨v, hb.others hg fun r e => (hr r e).2, own_others ho hg fun r e => (hr r e).2⟩, h.ib.others hg fun r e => (hr r e).2, h.fr.grown hg (fun r e hl => by have := (hr r e).1; omega), h.ge⟩
theorem GatAt.next {w W W2 : World} {T E X : TypeId} {gm bx : Nat} {bv : Value} {L : List Value} (h : GatAt w T E X gm bx bv L W) {v v2 : Value} (hb : Bk W gm T #[v]) {o : Obj} {nn : Nat} (hnn : nn = L.length) (ho : (W.alloc o).ownsRow w.heap.size E 1 v nn L) (u : Value)
    (ho2 : W2.ownsRow w.heap.size E 1 v2 (nn + 1) (L ++ [u])) (hg : (W.alloc o).grownBy W2 v.ownBlock) (hET : E ≠ T) (hEX : E ≠ X) (hXT : X ≠ T) {K : Nat → Prop} (hK : ∀ b, K b → b < w.heap.size ∨ b = bx) :
    KeepsOthers W (W2.setCell ⟨gm, 0, none⟩ v2) ∧ Keep K W (W2.setCell ⟨gm, 0, none⟩ v2) ∧ GatAt w T E X gm bx bv (L ++ [u]) (W2.setCell ⟨gm, 0, none⟩ v2) := by
  subst hnn
  have hf1 : Fr NoBlk W (W.alloc o) := (Fr.refl _ _).alloc _
  have hbA : Bk (W.alloc o) gm T #[v] := hb.alloc o
  have hiA : Bk (W.alloc o) bx X #[bv] := h.ib.alloc o
  have n1 : some gm ≠ v.ownBlock := fun e => own_apart ho hbA hET e.symm
  have n2 : some bx ≠ v.ownBlock := fun e => own_apart ho hiA hEX e.symm
  have hb2 : Bk W2 gm T #[v] := hbA.fr (Fr.ofGrown hg) n1
  have hi2 : Bk W2 bx X #[bv] := hiA.fr (Fr.ofGrown hg) n2
  have n3 : v2.ownBlock ≠ some gm := own_apart ho2 hb2 hET
  have n4 : bx ≠ gm := hi2.apart hb2 hXT
  have hfs : Fr (fun i => i = gm) W2 (W2.setCell ⟨gm, 0, none⟩ v2) := (Fr.refl (fun i => i = gm) W2).setCell (p := ⟨gm, 0, none⟩) (fun _ => rfl) _
  have hall : Fr (fun i => i = gm ∨ some i = v.ownBlock) W (W2.setCell ⟨gm, 0, none⟩ v2) :=
    ((hf1.mono (D := fun i => i = gm ∨ some i = v.ownBlock) fun _ _ h => h.elim).step (Fr.ofGrown hg) fun _ _ e => .inr e).step hfs fun _ _ e => .inl e
  have hlow : ∀ i, some i = v.ownBlock → w.heap.size ≤ i := fun i e => by
    rcases ho.2 with ⟨rfl, _⟩ | ⟨g', cap, cur, rfl, hbb, _⟩
    · cases e
    · have e1 : i = g' := by simpa [Value.ownBlock] using e
      omega
  have hge := h.ge
  have hsz := h.fr.size
  refine ⟨((KeepsOthers.alloc W o).trans (KeepsOthers.of_grownBy hg fun j o' e hj => ?_)).trans (KeepsOthers.setCell _ _ _), fun i hi => ?_, ⟨v2, ?_, ?_⟩, hi2.fr hfs n4, h.fr.step hall (fun i hi e => ?_), h.ge⟩
  · rcases ho.2 with ⟨rfl, _⟩ | ⟨g, cap, cur, rfl, _, hh, _⟩
    · cases e
    · have e1 : g = j := by simpa [Value.ownBlock] using e
      subst e1
      rw [hh] at hj
      injection hj with hj
      rw [← hj]
      rfl
  · rcases hK i hi with h1 | rfl
    · exact hall.block i (by omega) fun e => by
        rcases e with e | e
        · omega
        · have := hlow i e; omega
    · exact hall.block i h.ib.lt fun e => by
        rcases e with e | e
        · exact n4 e
        · exact n2 e
  · have h := hb2.put 0 v2
    simpa using h
  · rw [List.length_append, List.length_singleton]
    exact own_fr ho2 hfs fun i hi e => n3 (e ▸ hi)
  · rcases e with e | e
    · omega
    · have := hlow i e; omega
def keycS (x : ItS) : Value := .string (bstr x.1)
def valcS (x : ItS) : Value := .int .i64 x.2
theorem kinfoS : (Try.prog.info? 9).map (fun i => (i.zero, i.size, i.bytes)) = some (some (Value.string { data := #[] }), 1, 16) := by kernel_rfl
set_option maxRecDepth 100000 in
set_option maxHeartbeats 1000000 in
theorem treeKeysS_any (w : World) (g : Nat) (O : Nat → Prop) (xs : List ItS) (h : TreeS w g O xs) (hlen : xs.length ≤ 100000) :
    Calls Try.prog 24 #[.pointer (some ⟨g, 0, none⟩)] w fun e w' => ∃ A c, e = .returned (.slice A xs.length c) ∧ w'.ownsRow w.heap.size 9 1 (.slice A xs.length c) xs.length (xs.map keycS) ∧ Fr NoBlk w w' := by
  obtain ⟨i0, hi, hz0, hz1, hz2⟩ := info_parts kinfoS
  obtain ⟨n, hn⟩ : ∃ n, n = xs.length := ⟨_, rfl⟩
  obtain ⟨w1, hmk, ho1, hg1⟩ := run_make_own (P := Try.prog) w w.heap.size 45 9 i0 (Value.string { data := #[] }) 1 Try.underlying45 hi hz0 hz1 .i64 .i64 n (by rw [hz2]; omega) (by unfold maxLen; omega) (Nat.le_refl _)
  have hf1 : Fr NoBlk w w1 := (Fr.ofGrown hg1).mono fun _ _ e => by cases e
  have c1 : w.cell? ⟨g, 1, none⟩ = some (.int .i64 n) := by
    obtain ⟨d, t, h1, _⟩ := h
    rw [hn]
    exact h1.cell 1
  have HT := Lib.hid h
  have HN := Lib.hid hn
  have HLEN := Lib.hid hlen
  have HO1 := Lib.hid ho1
  have HF1 := Lib.hid hf1
  clear h hn hlen ho1 hg1 hf1
  refine (callsIn_wide (n := 9)).1 ?_
  refine callsIn_of_wp_marks Try.func24 rfl trivial ?_ rfl
  simp only [Try.ntmps24, List.size_toArray, List.length_cons, List.length_nil, Nat.reduceAdd, Nat.reduceSub, Array.replicate_succ, Array.replicate_zero, List.push_toArray, List.append_toArray, List.nil_append, List.cons_append]
  gi_wp2
  refine ⟨trivial, (callsIn_wide.2 (treeAllS_any _ g)).mono ?_⟩
  rintro e w5 ⟨rfl, hw5⟩
  obtain ⟨gm, hgm⟩ : ∃ gm, gm = w1.heap.size := ⟨_, rfl⟩
  have hsz4 : (w1.alloc (.cells #[.slice (some ⟨w.heap.size, 0, none⟩) 0 n] 45)).heap.size = gm + 1 := by rw [World.size_alloc, hgm]
  rw [hsz4]
  have hb50 : Bk w5 gm 45 #[.slice (some ⟨w.heap.size, 0, none⟩) 0 n] := by rw [hw5, hgm]; exact (Bk.new _ _ _).alloc _
  have hb51 : Bk w5 (gm + 1) 25 #[.pointer (some ⟨g, 0, none⟩)] := by rw [hw5, ← hsz4]; exact Bk.new _ _ _
  have hf15 : Fr NoBlk w1 w5 := by rw [hw5]; exact ((Fr.refl NoBlk w1).alloc _).alloc _
  have hf5 : Fr NoBlk w w5 := HF1.out.trans hf15
  have HGE : Hid (w.heap.size ≤ gm ∧ w.heap.size ≤ w5.heap.size) := ⟨by rw [hgm]; exact HF1.out.size, hf5.size⟩
  have HI0 : Hid (GatAt w 45 9 25 gm (gm + 1) (.pointer (some ⟨g, 0, none⟩)) [] w5) := ⟨⟨_, hb50, own_fr HO1.out hf15 fun _ _ e => e⟩, hb51, hf5, HGE.out.1⟩
  have HOL : Hid (∀ b, O b → b < w.heap.size) := fun b hb => HT.out.lt hb
  have HST := Lib.hid (allS_stops 8 (gm + 1) (fun b => O b ∨ b = gm + 1) w5 g O xs (HT.out.nofr hf5) (fun _ => Iff.rfl) hb51.lt (hb51.cell 0))
  have hKK : ∀ k, (O k ∨ k = gm + 1) → k < w5.heap.size := fun k hk => by
    rcases hk with hk | rfl
    · have := HOL.out k hk
      have := HGE.out.2
      omega
    · exact hb51.lt
  rw [← hgm]
  clear hb50 hb51 hf15 hf5 hgm hsz4 hw5 c1 hmk
  gi_wp2
  refine wpIn_rangeFunc_ownF rfl (by omega) (gf := 68) (lb := #[.pointer (some ⟨gm + 1, 0, none⟩)]) rfl trivial (enters_of Try.func68 (by kernel_rfl) rfl)
    HST.out (fun h k => h.t k) (Keep.b hKK) (Below.refl _ _) (fun _ => rfl)
    (fun (pre : List ItS) W => GatAt w 45 9 25 gm (gm + 1) (.pointer (some ⟨g, 0, none⟩)) (pre.map keycS) W)
    (fun _ _ _ => False)
    (fun s W W' row hs hg hr => hs.others hg fun r e => ⟨by have := (hr r e).1; have := HGE.out.2; omega, (hr r e).2⟩)
    (fun _ _ _ _ _ hs _ _ => hs)
    HI0.out
    (fun x => { tmps := #[.pointer (some ⟨g, 0, none⟩), undef, .slice none 0 0, .pointer (some ⟨gm, 0, none⟩), .string (bstr x.1), .pointer (some ⟨g, 0, none⟩), .pointer (some ⟨g, 0, none⟩), .pointer (some ⟨g, 1, none⟩), .int .i64 n, .slice (some ⟨w.heap.size, 0, none⟩) 0 n, .pointer (some ⟨g, 0, none⟩), .func (.func 68) #[] #[.pointer (some ⟨gm + 1, 0, none⟩)], .string (bstr x.1), .int .i64 x.2, undef, undef, undef, undef, undef], defers := [] }) ?assign ?body ?done ?stop
  case assign =>
    intro l' x W K hK
    simp [encS]
    gi_wp2
    exact hK
  case body =>
    rintro l' pre x W hI hlen
    have HI := Lib.hid hI
    obtain ⟨v, hbx, hov⟩ := hI.box
    obtain ⟨Av, cv, rfl, hcv, hAv⟩ := own_form hov
    have hc1 := hbx.cell 0
    obtain ⟨k, hk⟩ : ∃ k, k = (pre.map keycS).length := ⟨_, rfl⟩
    have hkp : k = pre.length := by rw [hk, List.length_map]
    rw [← hk] at hc1 hov hcv
    have HBX : Hid (Bk W gm 45 #[.slice Av k cv]) := by show Bk _ _ _ _; rw [hk]; exact hbx
    have HOV := Lib.hid hov
    have HKM := Lib.hid hk
    have HLK : Hid (k < 100000) := by show k < 100000; have := HLEN.out; omega
    have HWS : Hid (w.heap.size ≤ W.heap.size) := hI.fr.size
    have HKK := Lib.hid hKK
    clear hI hbx hov hk hkp hKK hlen hcv hAv
    have hfz := HBX.out.free 0
    obtain ⟨xk, xv⟩ := x
    have HOV2 : Hid ((W.alloc (.cells #[.string (bstr xk)] 9)).ownsRow w.heap.size 9 1 (.slice Av k cv) k (pre.map keycS)) := own_fr HOV.out ((Fr.refl NoBlk W).alloc _) fun _ _ h => h
    have HSRC : Hid (Rd (W.alloc (.cells #[.string (bstr xk)] 9)) (some ⟨W.heap.size, 0, none⟩) [.string (bstr xk)]) := Rd.of_cells (Bk.new W 9 #[.string (bstr xk)])
    gi_wp2_with (first | (gi_at_builtin; go_loud (refine wpListIn_app rfl _ _ 45 rfl w.heap.size 9 i0 (Value.string { data := #[] }) 16 Try.underlying45 hi hz0 hz1 hz2 rfl (.slice Av k cv) k (pre.map keycS) rfl HOV2.out (some ⟨W.heap.size, 0, none⟩) 1 1 [.string (bstr xk)] rfl rfl HSRC.out (by intro y hy; rw [List.mem_singleton] at hy; rw [hy]; rfl) (fun h => by cases h) (by unfold maxLen; have := HLK.out; omega) (by have := HLK.out; omega) (by have := HWS.out; rw [World.size_alloc]; omega) ?_); intro v2 W2 ho2 hg2 hn2 hb2; obtain ⟨A2, c2, rfl, _, _⟩ := own_form ho2; have hbx2 := Lib.hid ((HBX.out.alloc (.cells #[.string (bstr xk)] 9)).fr (Fr.ofGrown hg2) (fun e => own_apart HOV2.out (HBX.out.alloc (.cells #[.string (bstr xk)] 9)) (by decide) e.symm)); have hld := hbx2.out.cell 0; have hfz2 := hbx2.out.free 0; have HO2 := Lib.hid ho2; have HG2 := Lib.hid hg2; clear ho2 hg2 hn2 hb2) | gi_in)
    have HNX := Lib.hid (GatAt.next HI.out HBX.out (by rw [HKM.out] : k = (pre.map keycS).length) HOV2.out (.string (bstr xk)) HO2.out HG2.out (by decide) (by decide) (by decide) (K := fun b => O b ∨ b = gm + 1) (fun b hb => by
      rcases hb with hb | hb
      · exact .inl (HOL.out b hb)
      · exact .inr hb))
    refine ⟨HNX.out.1, HNX.out.2.1, ?_⟩
    show GatAt _ _ _ _ _ _ _ ((pre ++ [(xk, xv)]).map _) _
    rw [List.map_append, List.map_singleton]
    exact HNX.out.2.2
  case done =>
    rintro D ys W hD rfl hI hK
    obtain ⟨v, hb, ho⟩ := hI.box
    have hc1 : W.cell? ⟨gm, 0, none⟩ = some v := hb.cell 0
    have HD := Lib.hid hD
    have HO := Lib.hid ho
    have HI := Lib.hid hI
    have HKD := Lib.hid hK
    obtain ⟨Av, cv, rfl, _, _⟩ := own_form ho
    clear hI hb ho hD hK
    obtain ⟨k, hk⟩ : ∃ k, k = (ys.map keycS).length := ⟨_, rfl⟩
    have HKN := Lib.hid hk
    have HKL : Hid (k = ys.length) := by show _ = _; rw [hk, List.length_map]
    rw [← hk] at hc1
    clear hk
    gi_wp2
    refine ⟨by simp, .inl ⟨_, _, rfl, run_takeDeferred HKD.out, ?_⟩⟩
    refine ⟨_, results_tmp rfl _ _ _, Av, cv, by rw [← HKL.out]; rfl, ?_, HI.out.fr.grown (grownBy_putObj' W D _) fun r e hl => ?_⟩
    · have h := own_others HO.out (grownBy_putObj' W D (.deferred none)) (fun r e => by cases e; exact ⟨_, HKD.out, rfl⟩)
      rw [← HKN.out, HKL.out] at h
      exact h
    · cases e
      have := HD.out
      have := HGE.out.2
      omega
  case stop =>
    rintro D c' pre W _ _ h _
    exact h.elim
theorem vinfoS : (Try.prog.info? 3).map (fun i => (i.zero, i.size, i.bytes)) = some (some (.int .i64 0 : Value), 1, 8) := by kernel_rfl
set_option maxRecDepth 100000 in
set_option maxHeartbeats 1000000 in
theorem treeValuesS_any (w : World) (g : Nat) (O : Nat → Prop) (xs : List ItS) (h : TreeS w g O xs) (hlen : xs.length ≤ 100000) :
    Calls Try.prog 25 #[.pointer (some ⟨g, 0, none⟩)] w fun e w' => ∃ A c, e = .returned (.slice A xs.length c) ∧ w'.ownsRow w.heap.size 3 1 (.slice A xs.length c) xs.length (xs.map valcS) ∧ Fr NoBlk w w' := by
  obtain ⟨i0, hi, hz0, hz1, hz2⟩ := info_parts vinfoS
  obtain ⟨n, hn⟩ : ∃ n, n = xs.length := ⟨_, rfl⟩
  obtain ⟨w1, hmk, ho1, hg1⟩ := run_make_own (P := Try.prog) w w.heap.size 47 3 i0 (.int .i64 0 : Value) 1 Try.underlying47 hi hz0 hz1 .i64 .i64 n (by rw [hz2]; omega) (by unfold maxLen; omega) (Nat.le_refl _)
  have hf1 : Fr NoBlk w w1 := (Fr.ofGrown hg1).mono fun _ _ e => by cases e
  have c1 : w.cell? ⟨g, 1, none⟩ = some (.int .i64 n) := by
    obtain ⟨d, t, h1, _⟩ := h
    rw [hn]
    exact h1.cell 1
  have HT := Lib.hid h
  have HN := Lib.hid hn
  have HLEN := Lib.hid hlen
  have HO1 := Lib.hid ho1
  have HF1 := Lib.hid hf1
  clear h hn hlen ho1 hg1 hf1
  refine (callsIn_wide (n := 9)).1 ?_
  refine callsIn_of_wp_marks Try.func25 rfl trivial ?_ rfl
  simp only [Try.ntmps25, List.size_toArray, List.length_cons, List.length_nil, Nat.reduceAdd, Nat.reduceSub, Array.replicate_succ, Array.replicate_zero, List.push_toArray, List.append_toArray, List.nil_append, List.cons_append]
  gi_wp2
  refine ⟨trivial, (callsIn_wide.2 (treeAllS_any _ g)).mono ?_⟩
  rintro e w5 ⟨rfl, hw5⟩
  obtain ⟨gm, hgm⟩ : ∃ gm, gm = w1.heap.size := ⟨_, rfl⟩
  have hsz4 : (w1.alloc (.cells #[.slice (some ⟨w.heap.size, 0, none⟩) 0 n] 47)).heap.size = gm + 1 := by rw [World.size_alloc, hgm]
  rw [hsz4]
  have hb50 : Bk w5 gm 47 #[.slice (some ⟨w.heap.size, 0, none⟩) 0 n] := by rw [hw5, hgm]; exact (Bk.new _ _ _).alloc _
  have hb51 : Bk w5 (gm + 1) 25 #[.pointer (some ⟨g, 0, none⟩)] := by rw [hw5, ← hsz4]; exact Bk.new _ _ _
  have hf15 : Fr NoBlk w1 w5 := by rw [hw5]; exact ((Fr.refl NoBlk w1).alloc _).alloc _
  have hf5 : Fr NoBlk w w5 := HF1.out.trans hf15
  have HGE : Hid (w.heap.size ≤ gm ∧ w.heap.size ≤ w5.heap.size) := ⟨by rw [hgm]; exact HF1.out.size, hf5.size⟩
  have HI0 : Hid (GatAt w 47 3 25 gm (gm + 1) (.pointer (some ⟨g, 0, none⟩)) [] w5) := ⟨⟨_, hb50, own_fr HO1.out hf15 fun _ _ e => e⟩, hb51, hf5, HGE.out.1⟩
  have HOL : Hid (∀ b, O b → b < w.heap.size) := fun b hb => HT.out.lt hb
  have HST := Lib.hid (allS_stops 8 (gm + 1) (fun b => O b ∨ b = gm + 1) w5 g O xs (HT.out.nofr hf5) (fun _ => Iff.rfl) hb51.lt (hb51.cell 0))
  have hKK : ∀ k, (O k ∨ k = gm + 1) → k < w5.heap.size := fun k hk => by
    rcases hk with hk | rfl
    · have := HOL.out k hk
      have := HGE.out.2
      omega
    · exact hb51.lt
  rw [← hgm]
  clear hb50 hb51 hf15 hf5 hgm hsz4 hw5 c1 hmk
  gi_wp2
  refine wpIn_rangeFunc_ownF rfl (by omega) (gf := 68) (lb := #[.pointer (some ⟨gm + 1, 0, none⟩)]) rfl trivial (enters_of Try.func68 (by kernel_rfl) rfl)
    HST.out (fun h k => h.t k) (Keep.b hKK) (Below.refl _ _) (fun _ => rfl)
    (fun (pre : List ItS) W => GatAt w 47 3 25 gm (gm + 1) (.pointer (some ⟨g, 0, none⟩)) (pre.map valcS) W)
    (fun _ _ _ => False)
    (fun s W W' row hs hg hr => hs.others hg fun r e => ⟨by have := (hr r e).1; have := HGE.out.2; omega, (hr r e).2⟩)
    (fun _ _ _ _ _ hs _ _ => hs)
    HI0.out
    (fun x => { tmps := #[.pointer (some ⟨g, 0, none⟩), undef, .slice none 0 0, .pointer (some ⟨gm, 0, none⟩), undef, .int .i64 x.2, .pointer (some ⟨g, 0, none⟩), .pointer (some ⟨g, 0, none⟩), .pointer (some ⟨g, 1, none⟩), .int .i64 n, .slice (some ⟨w.heap.size, 0, none⟩) 0 n, .pointer (some ⟨g, 0, none⟩), .func (.func 68) #[] #[.pointer (some ⟨gm + 1, 0, none⟩)], .string (bstr x.1), .int .i64 x.2, undef, undef, undef, undef, undef], defers := [] }) ?assign ?body ?done ?stop
  case assign =>
    intro l' x W K hK
    simp [encS]
    gi_wp2
    exact hK
  case body =>
    rintro l' pre x W hI hlen
    have HI := Lib.hid hI
    obtain ⟨v, hbx, hov⟩ := hI.box
    obtain ⟨Av, cv, rfl, hcv, hAv⟩ := own_form hov
    have hc1 := hbx.cell 0
    obtain ⟨k, hk⟩ : ∃ k, k = (pre.map valcS).length := ⟨_, rfl⟩
    have hkp : k = pre.length := by rw [hk, List.length_map]
    rw [← hk] at hc1 hov hcv
    have HBX : Hid (Bk W gm 47 #[.slice Av k cv]) := by show Bk _ _ _ _; rw [hk]; exact hbx
    have HOV := Lib.hid hov
    have HKM := Lib.hid hk
    have HLK : Hid (k < 100000) := by show k < 100000; have := HLEN.out; omega
    have HWS : Hid (w.heap.size ≤ W.heap.size) := hI.fr.size
    have HKK := Lib.hid hKK
    clear hI hbx hov hk hkp hKK hlen hcv hAv
    have hfz := HBX.out.free 0
    obtain ⟨xk, xv⟩ := x
    have HOV2 : Hid ((W.alloc (.cells #[.int .i64 xv] 3)).ownsRow w.heap.size 3 1 (.slice Av k cv) k (pre.map valcS)) := own_fr HOV.out ((Fr.refl NoBlk W).alloc _) fun _ _ h => h
    have HSRC : Hid (Rd (W.alloc (.cells #[.int .i64 xv] 3)) (some ⟨W.heap.size, 0, none⟩) [.int .i64 xv]) := Rd.of_cells (Bk.new W 3 #[.int .i64 xv])
    gi_wp2_with (first | (gi_at_builtin; go_loud (refine wpListIn_app rfl _ _ 47 rfl w.heap.size 3 i0 (.int .i64 0 : Value) 8 Try.underlying47 hi hz0 hz1 hz2 rfl (.slice Av k cv) k (pre.map valcS) rfl HOV2.out (some ⟨W.heap.size, 0, none⟩) 1 1 [.int .i64 xv] rfl rfl HSRC.out (by intro y hy; rw [List.mem_singleton] at hy; rw [hy]; rfl) (fun h => by cases h) (by unfold maxLen; have := HLK.out; omega) (by have := HLK.out; omega) (by have := HWS.out; rw [World.size_alloc]; omega) ?_); intro v2 W2 ho2 hg2 hn2 hb2; obtain ⟨A2, c2, rfl, _, _⟩ := own_form ho2; have hbx2 := Lib.hid ((HBX.out.alloc (.cells #[.int .i64 xv] 3)).fr (Fr.ofGrown hg2) (fun e => own_apart HOV2.out (HBX.out.alloc (.cells #[.int .i64 xv] 3)) (by decide) e.symm)); have hld := hbx2.out.cell 0; have hfz2 := hbx2.out.free 0; have HO2 := Lib.hid ho2; have HG2 := Lib.hid hg2; clear ho2 hg2 hn2 hb2) | gi_in)
    have HNX := Lib.hid (GatAt.next HI.out HBX.out (by rw [HKM.out] : k = (pre.map valcS).length) HOV2.out (.int .i64 xv) HO2.out HG2.out (by decide) (by decide) (by decide) (K := fun b => O b ∨ b = gm + 1) (fun b hb => by
      rcases hb with hb | hb
      · exact .inl (HOL.out b hb)
      · exact .inr hb))
    refine ⟨HNX.out.1, HNX.out.2.1, ?_⟩
    show GatAt _ _ _ _ _ _ _ ((pre ++ [(xk, xv)]).map _) _
    rw [List.map_append, List.map_singleton]
    exact HNX.out.2.2
  case done =>
    rintro D ys W hD rfl hI hK
    obtain ⟨v, hb, ho⟩ := hI.box
    have hc1 : W.cell? ⟨gm, 0, none⟩ = some v := hb.cell 0
    have HD := Lib.hid hD
    have HO := Lib.hid ho
    have HI := Lib.hid hI
    have HKD := Lib.hid hK
    obtain ⟨Av, cv, rfl, _, _⟩ := own_form ho
    clear hI hb ho hD hK
    obtain ⟨k, hk⟩ : ∃ k, k = (ys.map valcS).length := ⟨_, rfl⟩
    have HKN := Lib.hid hk
    have HKL : Hid (k = ys.length) := by show _ = _; rw [hk, List.length_map]
    rw [← hk] at hc1
    clear hk
    gi_wp2
    refine ⟨by simp, .inl ⟨_, _, rfl, run_takeDeferred HKD.out, ?_⟩⟩
    refine ⟨_, results_tmp rfl _ _ _, Av, cv, by rw [← HKL.out]; rfl, ?_, HI.out.fr.grown (grownBy_putObj' W D _) fun r e hl => ?_⟩
    · have h := own_others HO.out (grownBy_putObj' W D (.deferred none)) (fun r e => by cases e; exact ⟨_, HKD.out, rfl⟩)
      rw [← HKN.out, HKL.out] at h
      exact h
    · cases e
      have := HD.out
      have := HGE.out.2
      omega
  case stop =>
    rintro D c' pre W _ _ h _
    exact h.elim
end Go.Proofs.Ytcpgonioobgpoaa
