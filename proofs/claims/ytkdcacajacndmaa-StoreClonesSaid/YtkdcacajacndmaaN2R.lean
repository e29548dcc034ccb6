/- put: a key gets a value in the tree at or below a node. Conditions: as the tree's shape has them. -/
import Derived.Test.YtkdcacajacndmaaN1R
import Derived.Test.YtkdcacajacndmaaP2

namespace Go.Proofs.Ytkdcacajacndmaa
open Go.RowKit
theorem RowW.put {w : World} {base : Nat} {e : TypeId} {size n c g : Nat} {xs : List Value} (h : RowW w base e size (.slice (some ⟨g, 0, none⟩) n c) n xs) (k : Nat) (v : Value) (_hk : k < xs.length) (hv : v.oneCell' = true) : RowW (w.setCell ⟨g, k, none⟩ v) base e size (.slice (some ⟨g, 0, none⟩) n c) n (xs.set k v) := by
  refine ⟨by rw [List.length_set]; exact h.1, fun u hu => ?_, ?_⟩
  · rcases List.mem_or_eq_of_mem_set hu with h1 | rfl
    · exact h.2.1 u h1
    · exact hv
  rcases h.2.2 with ⟨hv, _⟩ | ⟨g', cap, cur, hv', hb, hg, hc, hm, hs, ht⟩
  · cases hv
  injection hv' with e1 e2 e3
  injection e1 with e1
  injection e1 with e1
  subst e1 e3
  refine .inr ⟨g, c, _, rfl, hb, hg.put k v, hc, hm, by rw [Array.size_setIfInBounds]; exact hs, ?_⟩
  rw [Array.toList_setIfInBounds, List.take_set, ht]
theorem RowW.frz {w : World} {base : Nat} {e : TypeId} {size n c g : Nat} {xs : List Value} (h : RowW w base e size (.slice (some ⟨g, 0, none⟩) n c) n xs) (k : Nat) : w.frozen? ⟨g, k, none⟩ = false := by
  obtain ⟨cur, hb⟩ := h.blk
  exact hb.free k
theorem itsR_set (xs : List ItR) (i : Nat) (x y : ItR) (h : xs[i]? = some x) : itsR (xs.set i y) = (((((itsR xs).set (i * 5) (.string (bstr y.1))).set (i * 5 + 1) (.bool y.2.has)).set (i * 5 + 2) (.slice y.2.va y.2.vn y.2.vc)).set (i * 5 + 3) (.int .i64 y.2.home)).set (i * 5 + 4) (.int .u64 (y.2.count : Int)) := by
  induction xs generalizing i with
  | nil => cases h
  | cons z t ih =>
    cases i with
    | zero => rfl
    | succ i =>
      show itcR z ++ itsR (t.set i y) = (((((itcR z ++ itsR t).set ((i + 1) * 5) _).set ((i + 1) * 5 + 1) _).set ((i + 1) * 5 + 2) _).set ((i + 1) * 5 + 3) _).set ((i + 1) * 5 + 4) _
      rw [ih i h, show (i + 1) * 5 = i * 5 + 5 by omega]
      rfl
theorem itsR_setv (xs : List ItR) (i : Nat) (k : Bs) (u v : VaR) (h : xs[i]? = some (k, u)) : itsR (xs.set i (k, v)) = ((((itsR xs).set (i * 5 + 1) (.bool v.has)).set (i * 5 + 2) (.slice v.va v.vn v.vc)).set (i * 5 + 3) (.int .i64 v.home)).set (i * 5 + 4) (.int .u64 (v.count : Int)) := by
  rw [itsR_set xs i (k, u) (k, v) h]
  congr 1
  congr 1
  congr 1
  congr 1
  have h1 := itsR_get xs i (k, u) h 0 (by omega)
  obtain ⟨hl, he⟩ := List.getElem?_eq_some_iff.1 h1
  have he2 : .string (bstr k) = (itsR xs)[i * 5 + 0] := he.symm
  show (itsR xs).set (i * 5) (.string (bstr k)) = itsR xs
  rw [he2]
  exact List.set_getElem_self hl
def PutRPost (w : World) {d : Nat} (t : Tr ItR d) (key : Bs) (v : VaR) (e : Ending) (w' : World) : Prop :=
  ∃ (old : VaR) (had : Bool) (t' : Tr ItR d), e = .returned (.tuple #[.agg #[.bool old.has, .slice old.va old.vn old.vc, .int .i64 old.home, .int .u64 (old.count : Int)], .bool had]) ∧ Lk (VaR.mk false none 0 0 0 0 : VaR) key t.flat had old ∧ t'.ok tkR w' ∧ t'.flat = putL Op.bytesLess key v t.flat ∧ t'.g = t.g ∧ t.n ≤ t'.n ∧ t'.n ≤ t.n + 1 ∧ (had = true → t'.n = t.n) ∧ Stp w w' t.own t'.own
theorem results_cell_tmp {fn : Func} {p q : Tmp} {t : TypeId} (h : fn.results = #[.cell p t, .tmp q]) (tmps : Array Value) (P : Program) (w : World) :
    (results fn tmps).run P w = ((asAddr (tmps.getD p undef)).run P w).andThen fun a w₁ => ((loadVar t a).run P w₁).andThen fun v w₂ => .ok (.tuple #[v, tmps.getD q undef]) w₂ := by
  simp only [results, h]
  simp [Sem.run_bind, Result.andThen]
theorem Bk.cast {w : World} {g : Nat} {T : TypeId} {cs cs' : Array Value} (h : Bk w g T cs) (e : cs = cs') : Bk w g T cs' := e ▸ h
theorem Tr.own_ty {I : Type} {κ : TK I} {w : World} : ∀ {d : Nat} (t : Tr I d), t.lies κ w → ∀ {b : Nat}, t.own b → ∃ T cs, Bk w b T cs ∧ (T = κ.NT ∨ T = κ.IT ∨ T = κ.PT)
  | 0, .leaf h, hl, b, hb => by
    obtain ⟨h1, h2, h3⟩ := hl
    rcases hb with rfl | hb | hb
    · exact ⟨_, _, h1, .inl rfl⟩
    · obtain ⟨cur, h⟩ := h2.blk' (ablk_own hb)
      exact ⟨_, _, h, .inr (.inl rfl)⟩
    · obtain ⟨cur, h⟩ := h3.blk' (ablk_own hb)
      exact ⟨_, _, h, .inr (.inr rfl)⟩
  | d + 1, .node h ks, hl, b, hb => by
    rcases hb with hb | ⟨k, hk, hb⟩
    · obtain ⟨h1, h2, h3⟩ := hl.1
      rcases hb with rfl | hb | hb
      · exact ⟨_, _, h1, .inl rfl⟩
      · obtain ⟨cur, h⟩ := h2.blk' (ablk_own hb)
        exact ⟨_, _, h, .inr (.inl rfl)⟩
      · obtain ⟨cur, h⟩ := h3.blk' (ablk_own hb)
        exact ⟨_, _, h, .inr (.inr rfl)⟩
    · exact Tr.own_ty k (hl.2 k hk) hb
theorem Tr.not_own {I : Type} {κ : TK I} {w : World} {d : Nat} {t : Tr I d} (hl : t.lies κ w) {q : Nat} {T : TypeId} {cs : Array Value} (hq : Bk w q T cs) (h1 : T ≠ κ.NT) (h2 : T ≠ κ.IT) (h3 : T ≠ κ.PT) : ¬ t.own q := fun h => by
  obtain ⟨T', cs', hb, e⟩ := Tr.own_ty t hl h
  unfold Bk at hb hq
  rw [hq] at hb
  injection hb with hb
  injection hb with _ hb _
  rcases e with e | e | e
  · exact h1 (hb.trans e)
  · exact h2 (hb.trans e)
  · exact h3 (hb.trans e)
/-- a call's own box turned behind all. -/
theorem PutRPost.box {w W W' : World} {d : Nat} {t : Tr ItR d} {key : Bs} {v : VaR} {e : Ending} {q : Nat} {cs : Array Value} (h : PutRPost w t key v e W) (hf : Fr (fun b => b = q) W W') (hq : Bk W q 38 cs) (hl : w.heap.size ≤ q) : PutRPost w t key v e W' := by
  obtain ⟨old, had, t', h1, h2, h3, h4, h5, h6, h7, h8, h9⟩ := h
  have hn : ¬ t'.own q := Tr.not_own h3.lies hq (by decide) (by decide) (by decide)
  refine ⟨old, had, t', h1, h2, h3.fr hf fun b hb e => hn (e ▸ hb), h4, h5, h6, h7, h8, ⟨h9.fr.step hf fun i hi e => by omega, h9.new⟩⟩
/-- a value in the place of another one. -/
theorem putR_found {w w1 : World} {d : Nat} {t : Tr ItR d} (o : t.ok tkR w) (hu : UpI Op.bytesLess t.flat) {key : Bs} {u v : VaR} {i : Nat} (hx : t.hd.xs[i]? = some (key, u)) (hf : Fr NoBlk w w1) {a : Nat} (ha : t.hd.A = some ⟨a, 0, none⟩) :
    PutRPost w t key v (.returned (.tuple #[.agg #[.bool u.has, .slice u.va u.vn u.vc, .int .i64 u.home, .int .u64 (u.count : Int)], .bool true])) (((((w1).setCell ⟨a, i * 5 + 1, none⟩ (.bool v.has)).setCell ⟨a, i * 5 + 2, none⟩ (.slice v.va v.vn v.vc)).setCell ⟨a, i * 5 + 3, none⟩ (.int .i64 v.home)).setCell ⟨a, i * 5 + 4, none⟩ (.int .u64 (v.count : Int))) := by
  obtain ⟨P, Q, h1, h2⟩ := Tr.flat_set o.shape hx
  have hl := Tr.lies_hd o.lies
  have hf1 : Fr (fun b => t.hd.own b) w (((((w1).setCell ⟨a, i * 5 + 1, none⟩ (.bool v.has)).setCell ⟨a, i * 5 + 2, none⟩ (.slice v.va v.vn v.vc)).setCell ⟨a, i * 5 + 3, none⟩ (.int .i64 v.home)).setCell ⟨a, i * 5 + 4, none⟩ (.int .u64 (v.count : Int))) := ((((hf.mono fun _ _ h => h.elim).setCell (p := ⟨a, i * 5 + 1, none⟩) (fun _ => .inr (.inl ⟨_, ha, rfl⟩)) _).setCell (p := ⟨a, i * 5 + 2, none⟩) (fun _ => .inr (.inl ⟨_, ha, rfl⟩)) _).setCell (p := ⟨a, i * 5 + 3, none⟩) (fun _ => .inr (.inl ⟨_, ha, rfl⟩)) _).setCell (p := ⟨a, i * 5 + 4, none⟩) (fun _ => .inr (.inl ⟨_, ha, rfl⟩)) _
  have hil := (List.getElem?_eq_some_iff.1 hx).1
  have hf2 : Fr (fun b => b = a) w (((((w1).setCell ⟨a, i * 5 + 1, none⟩ (.bool v.has)).setCell ⟨a, i * 5 + 2, none⟩ (.slice v.va v.vn v.vc)).setCell ⟨a, i * 5 + 3, none⟩ (.int .i64 v.home)).setCell ⟨a, i * 5 + 4, none⟩ (.int .u64 (v.count : Int))) := ((((hf.mono (D := fun b => b = a) fun _ _ h => h.elim).setCell (p := ⟨a, i * 5 + 1, none⟩) (fun _ => rfl) _).setCell (p := ⟨a, i * 5 + 2, none⟩) (fun _ => rfl) _).setCell (p := ⟨a, i * 5 + 3, none⟩) (fun _ => rfl) _).setCell (p := ⟨a, i * 5 + 4, none⟩) (fun _ => rfl) _
  have hr := hl.2.1
  rw [ha] at hr
  obtain ⟨cur, hbk⟩ := hr.blk
  have hok : (t.setx (t.hd.xs.set i (key, v))).ok tkR (((((w1).setCell ⟨a, i * 5 + 1, none⟩ (.bool v.has)).setCell ⟨a, i * 5 + 2, none⟩ (.slice v.va v.vn v.vc)).setCell ⟨a, i * 5 + 3, none⟩ (.int .i64 v.home)).setCell ⟨a, i * 5 + 4, none⟩ (.int .u64 (v.count : Int))) := by
    refine Tr.setx_ok hf1 o (fun _ h => h) (Hd.lies_mk (n := t.hd.xs.length) (m := t.ptrs.length) (ys := itsR (t.hd.xs.set i (key, v))) (zs := t.ptrs.map ptr) (hl.1.fr hf2 fun e => hl.1.apart hbk (by decide) e) ?_ (hl.2.2.fr hf2 fun k hk e => ?_) (by rw [List.length_set]) rfl rfl rfl) (by rw [List.length_set]; rfl)
    · rw [ha, itsR_setv _ i key u v hx]
      exact ((((hr.fr hf fun _ _ h => h).put (i * 5 + 1) _ (by show _ < (itsR t.hd.xs).length; rw [itsR_len]; omega) rfl).put (i * 5 + 2) _ (by simp only [List.length_set]; show _ < (itsR t.hd.xs).length; rw [itsR_len]; omega) rfl).put (i * 5 + 3) _ (by simp only [List.length_set]; show _ < (itsR t.hd.xs).length; rw [itsR_len]; omega) rfl).put (i * 5 + 4) _ (by simp only [List.length_set]; show _ < (itsR t.hd.xs).length; rw [itsR_len]; omega) rfl
    · obtain ⟨cur2, h3⟩ := hl.2.2.blk' hk
      exact h3.apart hbk (by decide) e
  rw [h1] at hu
  have hs := up_mid linS hu
  refine ⟨u, true, t.setx (t.hd.xs.set i (key, v)), rfl, .inl ⟨rfl, by rw [h1]; simp⟩, hok, ?_, by show (t.setx _).hd.g = _; rw [Tr.setx_hd]; rfl, ?_, ?_, fun _ => by show (t.setx _).hd.xs.length = _; rw [Tr.setx_hd]; show (t.hd.xs.set i (key, v)).length = _; rw [List.length_set]; rfl, ⟨hf1.mono fun b _ hb => t.own_hd hb, fun b hb => .inl ((t.setx_own _ b).1 hb)⟩⟩
  · rw [h2, h1, putL_mid linS hs.1 hs.2, putL_at linS]
  · show _ ≤ (t.setx _).hd.xs.length; rw [Tr.setx_hd]; show _ ≤ (t.hd.xs.set i (key, v)).length; rw [List.length_set]; exact Nat.le_refl _
  · show (t.setx _).hd.xs.length ≤ _; rw [Tr.setx_hd]; show (t.hd.xs.set i (key, v)).length ≤ _; rw [List.length_set]; exact Nat.le_succ _
set_option maxRecDepth 100000 in
set_option maxHeartbeats 4000000 in
theorem putR_any (key : Bs) (v : VaR) : ∀ {d : Nat} (w : World) (t : Tr ItR d), t.ok tkR w → UpI Op.bytesLess t.flat → t.n ≤ 16 → Calls Try.prog 80 #[.pointer (some ⟨t.g, 0, none⟩), .string (bstr key), .agg #[.bool v.has, .slice v.va v.vn v.vc, .int .i64 v.home, .int .u64 (v.count : Int)]] w (PutRPost w t key v) := by
  intro d
  induction d with
  | zero =>
    intro w t o hu hn
    have HO := Lib.hid o
    have HU := Lib.hid hu
    have hl := Tr.lies_hd o.lies
    have hux : UpI Op.bytesLess t.hd.xs := hu.sub (Tr.sub_hd t)
    have hnx : t.hd.xs.length ≤ 16 := hn
    have HN := Lib.hid hn
    have hgg : t.g = t.hd.g := rfl
    rw [hgg]
    generalize hh : t.hd = h at hl hux hnx ⊢
    have HE := Lib.hid hh
    clear hh hgg o hu hn
    obtain ⟨hg, hA, hc, hB, he, hxs⟩ := h
    obtain ⟨b1, b2, b3⟩ := hl
    unfold tkR at b1 b2 b3
    dsimp only at b1 b2 b3 hux hnx
    obtain ⟨q5, hq5⟩ : ∃ q, q = w.heap.size := ⟨_, rfl⟩
    obtain ⟨w0, hw0⟩ : ∃ w0, w0 = (w.alloc (.cells #[.bool v.has, .slice v.va v.vn v.vc, .int .i64 v.home, .int .u64 (v.count : Int)] 38)).alloc (.cells #[.bool false, .slice none 0 0, .int .i64 0, .int .u64 0] 38) := ⟨_, rfl⟩
    have hf0 : Fr NoBlk w w0 := by rw [hw0]; exact ((Fr.refl _ _).alloc _).alloc _
    have HV5 : Hid (Bk w0 q5 38 #[.bool v.has, .slice v.va v.vn v.vc, .int .i64 v.home, .int .u64 (v.count : Int)]) := by show Bk _ _ _ _; rw [hw0, hq5]; exact (Bk.new _ _ _).alloc _
    have HV6 : Hid (Bk w0 (q5 + 1) 38 #[.bool false, .slice none 0 0, .int .i64 0, .int .u64 0]) := by show Bk _ _ _ _; rw [hw0, hq5]; have h := Bk.new (w.alloc (.cells #[.bool v.has, .slice v.va v.vn v.vc, .int .i64 v.home, .int .u64 (v.count : Int)] 38)) 38 #[.bool false, .slice none 0 0, .int .i64 0, .int .u64 0]; rw [World.size_alloc] at h; exact h
    have HFD := Lib.hid (findR_any w0 hA hc hxs key (b2.rd.nofr hf0) hux (by omega))
    have HNX := Lib.hid hnx
    obtain ⟨n, hnn⟩ : ∃ n, n = hxs.length := ⟨_, rfl⟩
    have HNN := Lib.hid hnn
    rw [← hnn] at b1 b2 HFD
    obtain ⟨np, hnp⟩ : ∃ np, np = t.ptrs.length := ⟨_, rfl⟩
    have HNP := Lib.hid hnp
    rw [← hnp] at b1 b3
    have B1 := Lib.hid b1
    have B2 := Lib.hid b2
    have B3 := Lib.hid b3
    have HUX := Lib.hid hux
    have c0 : w0.cell? ⟨hg, 0, none⟩ = some (.slice hA n hc) := (b1.fr hf0 fun e => e).cell 0
    have HGL : Hid (hg < q5 ∧ (∀ a, hA = some a → a.block < q5) ∧ w.heap.size = q5) := ⟨by have := b1.lt; omega, fun a e => (by obtain ⟨cur, h⟩ := b2.blk' (ablk_own ⟨a, e, rfl⟩); have := h.lt; omega), hq5.symm⟩
    have HF0 := Lib.hid hf0
    have HW0 := Lib.hid hw0
    have HQ5 := Lib.hid hq5
    clear b1 b2 b3 hnn hnp hux hnx hf0 hw0 hq5
    go_enter Try.func80, Try.ntmps80
    go_upto_region 1 with fail
    rw [← HW0.out, ← HQ5.out]
    clear HW0 HQ5
    go_wp2_with fail
    refine HFD.out.mono ?_
    clear HFD
    rintro e w1 ⟨i, fd, rfl, hi, hfd, hf1'⟩
    have hf1 : Fr NoBlk w w1 := HF0.out.trans hf1'
    have HV51 := Lib.hid (HV5.out.fr hf1' fun e => e)
    have HV61 := Lib.hid (HV6.out.fr hf1' fun e => e)
    clear HV5 HV6 HF0 hf1'
    have HI := Lib.hid hi
    have HFD := Lib.hid hfd
    have HF1 := Lib.hid hf1
    have B11 := Lib.hid (B1.out.fr hf1 fun h => h)
    have B21 := Lib.hid (B2.out.fr hf1 fun _ _ h => h)
    have B31 := Lib.hid (B3.out.fr hf1 fun _ _ h => h)
    have c0 : w1.cell? ⟨hg, 0, none⟩ = some (.slice hA n hc) := B11.out.cell 0
    clear hi hfd hf1
    cases fd with
    | true =>
      obtain ⟨u, hx⟩ := HFD.out.1 rfl
      have hin : i < n := by rw [HNN.out]; exact (List.getElem?_eq_some_iff.1 hx).1
      obtain ⟨a, rfl⟩ := B21.out.addr (by omega)
      have HX := Lib.hid hx
      have d1 : w1.cell? ⟨a, i * 5 + 1, none⟩ = some (.bool u.has) := by have := B21.out; exact (RowW.cellR this hx).2.1
      have d1x1 : w1.cell? ⟨a, i * 5 + 2, none⟩ = some (.slice u.va u.vn u.vc) := by have := B21.out; exact (RowW.cellR this hx).2.2.1
      have d1x2 : w1.cell? ⟨a, i * 5 + 3, none⟩ = some (.int .i64 u.home) := by have := B21.out; exact (RowW.cellR this hx).2.2.2.1
      have d1x3 : w1.cell? ⟨a, i * 5 + 4, none⟩ = some (.int .u64 (u.count : Int)) := by have := B21.out; exact (RowW.cellR this hx).2.2.2.2
      have f1 := B21.out.frz (i * 5 + 1)
      have f1x1 := B21.out.frz (i * 5 + 2)
      have f1x2 := B21.out.frz (i * 5 + 3)
      have f1x3 := B21.out.frz (i * 5 + 4)
      have hag : a < q5 := HGL.out.2.1 _ rfl
      have hgq := HGL.out.1
      have z0 : w1.cell? ⟨q5 + 1, 0, none⟩ = some (.bool false) := HV61.out.cell 0
      have z1 : w1.cell? ⟨q5 + 1, 1, none⟩ = some (.slice none 0 0) := HV61.out.cell 1
      have z2 : w1.cell? ⟨q5 + 1, 2, none⟩ = some (.int .i64 0) := HV61.out.cell 2
      have z3 : w1.cell? ⟨q5 + 1, 3, none⟩ = some (.int .u64 0) := HV61.out.cell 3
      have zf0 := HV61.out.free 0
      have zf1 := HV61.out.free 1
      have zf2 := HV61.out.free 2
      have zf3 := HV61.out.free 3
      obtain ⟨W2, hW2⟩ : ∃ W2, W2 = ((((w1).setCell ⟨q5 + 1, 0, none⟩ (.bool u.has)).setCell ⟨q5 + 1, 1, none⟩ (.slice u.va u.vn u.vc)).setCell ⟨q5 + 1, 2, none⟩ (.int .i64 u.home)).setCell ⟨q5 + 1, 3, none⟩ (.int .u64 (u.count : Int)) := ⟨_, rfl⟩
      have hx2 : Fr (fun k => k = q5 + 1) w1 W2 := by
        rw [hW2]
        exact ((((Fr.refl (fun k => k = q5 + 1) w1).setCell (p := ⟨q5 + 1, 0, none⟩) (fun _ => rfl) _).setCell (p := ⟨q5 + 1, 1, none⟩) (fun _ => rfl) _).setCell (p := ⟨q5 + 1, 2, none⟩) (fun _ => rfl) _).setCell (p := ⟨q5 + 1, 3, none⟩) (fun _ => rfl) _
      have HB6 : Hid (Bk W2 (q5 + 1) 38 #[.bool u.has, .slice u.va u.vn u.vc, .int .i64 u.home, .int .u64 (u.count : Int)]) := by
        show Bk _ _ _ _
        rw [hW2]
        refine Bk.cast (((((HV61.out).put 0 (.bool u.has)).put 1 (.slice u.va u.vn u.vc)).put 2 (.int .i64 u.home)).put 3 (.int .u64 (u.count : Int))) ?_
        simp only [List.setIfInBounds_toArray, List.set_cons_zero, List.set_cons_succ]
      have HB5 : Hid (Bk W2 q5 38 #[.bool v.has, .slice v.va v.vn v.vc, .int .i64 v.home, .int .u64 (v.count : Int)]) := HV51.out.fr hx2 (by omega)
      have HN2 : Hid (Bk W2 hg 102 #[.slice (some ⟨a, 0, none⟩) n hc, .slice hB np he]) := B11.out.fr hx2 (by omega)
      have HR2 : Hid (RowW W2 0 124 5 (.slice (some ⟨a, 0, none⟩) n hc) n (itsR hxs)) := B21.out.fr hx2 fun k hk e => by injection hk with hk; have hk2 : a = k := hk; omega
      have HFW2 : Hid (Fr NoBlk w W2) := HF1.out.step hx2 fun i hi e => by have := HGL.out.2.2; omega
      have e0 : W2.cell? ⟨hg, 0, none⟩ = some (.slice (some ⟨a, 0, none⟩) n hc) := HN2.out.cell 0
      have e0d : W2.drew.cell? ⟨hg, 0, none⟩ = some (.slice (some ⟨a, 0, none⟩) n hc) := e0
      have v0 : W2.cell? ⟨q5, 0, none⟩ = some (.bool v.has) := HB5.out.cell 0
      have v1 : W2.cell? ⟨q5, 1, none⟩ = some (.slice v.va v.vn v.vc) := HB5.out.cell 1
      have v2 : W2.cell? ⟨q5, 2, none⟩ = some (.int .i64 v.home) := HB5.out.cell 2
      have v3 : W2.cell? ⟨q5, 3, none⟩ = some (.int .u64 (v.count : Int)) := HB5.out.cell 3
      have vd0 : W2.drew.cell? ⟨q5, 0, none⟩ = some (.bool v.has) := (HB5.out.fr (Fr.refl NoBlk _).drew fun e => e).cell 0
      have vd1 : W2.drew.cell? ⟨q5, 1, none⟩ = some (.slice v.va v.vn v.vc) := (HB5.out.fr (Fr.refl NoBlk _).drew fun e => e).cell 1
      have vd2 : W2.drew.cell? ⟨q5, 2, none⟩ = some (.int .i64 v.home) := (HB5.out.fr (Fr.refl NoBlk _).drew fun e => e).cell 2
      have vd3 : W2.drew.cell? ⟨q5, 3, none⟩ = some (.int .u64 (v.count : Int)) := (HB5.out.fr (Fr.refl NoBlk _).drew fun e => e).cell 3
      have g0 : W2.cell? ⟨a, i * 5 + 1, none⟩ = some (.bool u.has) := (RowW.cellR HR2.out hx).2.1
      have gd0 : W2.drew.cell? ⟨a, i * 5 + 1, none⟩ = some (.bool u.has) := g0
      have gf0 : W2.frozen? ⟨a, i * 5 + 1, none⟩ = false := HR2.out.frz _
      have gfd0 : W2.drew.frozen? ⟨a, i * 5 + 1, none⟩ = false := gf0
      have g1 : W2.cell? ⟨a, i * 5 + 2, none⟩ = some (.slice u.va u.vn u.vc) := (RowW.cellR HR2.out hx).2.2.1
      have gd1 : W2.drew.cell? ⟨a, i * 5 + 2, none⟩ = some (.slice u.va u.vn u.vc) := g1
      have gf1 : W2.frozen? ⟨a, i * 5 + 2, none⟩ = false := HR2.out.frz _
      have gfd1 : W2.drew.frozen? ⟨a, i * 5 + 2, none⟩ = false := gf1
      have g2 : W2.cell? ⟨a, i * 5 + 3, none⟩ = some (.int .i64 u.home) := (RowW.cellR HR2.out hx).2.2.2.1
      have gd2 : W2.drew.cell? ⟨a, i * 5 + 3, none⟩ = some (.int .i64 u.home) := g2
      have gf2 : W2.frozen? ⟨a, i * 5 + 3, none⟩ = false := HR2.out.frz _
      have gfd2 : W2.drew.frozen? ⟨a, i * 5 + 3, none⟩ = false := gf2
      have g3 : W2.cell? ⟨a, i * 5 + 4, none⟩ = some (.int .u64 (u.count : Int)) := (RowW.cellR HR2.out hx).2.2.2.2
      have gd3 : W2.drew.cell? ⟨a, i * 5 + 4, none⟩ = some (.int .u64 (u.count : Int)) := g3
      have gf3 : W2.frozen? ⟨a, i * 5 + 4, none⟩ = false := HR2.out.frz _
      have gfd3 : W2.drew.frozen? ⟨a, i * 5 + 4, none⟩ = false := gf3
      have i1 : (0 : Int) ≤ (i : Int) := by omega
      have i2 : (i : Int) < (n : Int) := by omega
      have HW2 := Lib.hid hW2
      clear hx hx2 hW2
      go_upto_region 4 with fail
      rw [← HW2.out]
      clear HW2
      go_region
      obtain ⟨W3, hW3⟩ : ∃ W3, W3 = (((((W2).setCell ⟨a, i * 5 + 1, none⟩ (.bool v.has)).setCell ⟨a, i * 5 + 1 + 1, none⟩ (.slice v.va v.vn v.vc)).setCell ⟨a, i * 5 + 1 + 2, none⟩ (.int .i64 v.home)).setCell ⟨a, i * 5 + 1 + 3, none⟩ (.int .u64 (v.count : Int))).drew := ⟨_, rfl⟩
      rw [← hW3]
      have hp3 : PutRPost w t key v (.returned (.tuple #[.agg #[.bool u.has, .slice u.va u.vn u.vc, .int .i64 u.home, .int .u64 (u.count : Int)], .bool true])) (((((W2).setCell ⟨a, i * 5 + 1, none⟩ (.bool v.has)).setCell ⟨a, i * 5 + 1 + 1, none⟩ (.slice v.va v.vn v.vc)).setCell ⟨a, i * 5 + 1 + 2, none⟩ (.int .i64 v.home)).setCell ⟨a, i * 5 + 1 + 3, none⟩ (.int .u64 (v.count : Int))) := putR_found HO.out HU.out (by rw [HE.out]; exact HX.out) HFW2.out (by rw [HE.out])
      have hx3 : Fr (fun k => k = a) W2 (((((W2).setCell ⟨a, i * 5 + 1, none⟩ (.bool v.has)).setCell ⟨a, i * 5 + 1 + 1, none⟩ (.slice v.va v.vn v.vc)).setCell ⟨a, i * 5 + 1 + 2, none⟩ (.int .i64 v.home)).setCell ⟨a, i * 5 + 1 + 3, none⟩ (.int .u64 (v.count : Int))) := ((((Fr.refl (fun k => k = a) W2).setCell (p := ⟨a, i * 5 + 1, none⟩) (fun _ => rfl) _).setCell (p := ⟨a, i * 5 + 1 + 1, none⟩) (fun _ => rfl) _).setCell (p := ⟨a, i * 5 + 1 + 2, none⟩) (fun _ => rfl) _).setCell (p := ⟨a, i * 5 + 1 + 3, none⟩) (fun _ => rfl) _
      have hb3 : Bk (((((W2).setCell ⟨a, i * 5 + 1, none⟩ (.bool v.has)).setCell ⟨a, i * 5 + 1 + 1, none⟩ (.slice v.va v.vn v.vc)).setCell ⟨a, i * 5 + 1 + 2, none⟩ (.int .i64 v.home)).setCell ⟨a, i * 5 + 1 + 3, none⟩ (.int .u64 (v.count : Int))) (q5 + 1) 38 #[.bool u.has, .slice u.va u.vn u.vc, .int .i64 u.home, .int .u64 (u.count : Int)] := HB6.out.fr hx3 (by omega)
      have hd3 : Fr NoBlk (((((W2).setCell ⟨a, i * 5 + 1, none⟩ (.bool v.has)).setCell ⟨a, i * 5 + 1 + 1, none⟩ (.slice v.va v.vn v.vc)).setCell ⟨a, i * 5 + 1 + 2, none⟩ (.int .i64 v.home)).setCell ⟨a, i * 5 + 1 + 3, none⟩ (.int .u64 (v.count : Int))) W3 := by rw [hW3]; exact (Fr.refl _ _).drew
      have HB3 : Hid (Bk W3 (q5 + 1) 38 #[.bool u.has, .slice u.va u.vn u.vc, .int .i64 u.home, .int .u64 (u.count : Int)]) := hb3.fr hd3 fun e => e
      have HP3 : Hid (∀ W, Fr (fun k => k = q5 + 1) W3 W → PutRPost w t key v (.returned (.tuple #[.agg #[.bool u.has, .slice u.va u.vn u.vc, .int .i64 u.home, .int .u64 (u.count : Int)], .bool true])) W) := fun W hW => hp3.box (q := q5 + 1) ((hd3.mono fun _ _ e => e.elim).trans hW) hb3 (by have := HGL.out.2.2; omega)
      have y0 : W3.cell? ⟨q5 + 1, 0, none⟩ = some (.bool u.has) := HB3.out.cell 0
      have y1 : W3.cell? ⟨q5 + 1, 1, none⟩ = some (.slice u.va u.vn u.vc) := HB3.out.cell 1
      have y2 : W3.cell? ⟨q5 + 1, 2, none⟩ = some (.int .i64 u.home) := HB3.out.cell 2
      have y3 : W3.cell? ⟨q5 + 1, 3, none⟩ = some (.int .u64 (u.count : Int)) := HB3.out.cell 3
      have yf0 := HB3.out.free 0
      have yf1 := HB3.out.free 1
      have yf2 := HB3.out.free 2
      have yf3 := HB3.out.free 3
      obtain ⟨W4, hW4⟩ : ∃ W4, W4 = ((((W3).setCell ⟨q5 + 1, 0, none⟩ (.bool u.has)).setCell ⟨q5 + 1, 1, none⟩ (.slice u.va u.vn u.vc)).setCell ⟨q5 + 1, 2, none⟩ (.int .i64 u.home)).setCell ⟨q5 + 1, 3, none⟩ (.int .u64 (u.count : Int)) := ⟨_, rfl⟩
      have hx4 : Fr (fun k => k = q5 + 1) W3 W4 := by
        rw [hW4]
        exact ((((Fr.refl (fun k => k = q5 + 1) W3).setCell (p := ⟨q5 + 1, 0, none⟩) (fun _ => rfl) _).setCell (p := ⟨q5 + 1, 1, none⟩) (fun _ => rfl) _).setCell (p := ⟨q5 + 1, 2, none⟩) (fun _ => rfl) _).setCell (p := ⟨q5 + 1, 3, none⟩) (fun _ => rfl) _
      have HB4 : Hid (Bk W4 (q5 + 1) 38 #[.bool u.has, .slice u.va u.vn u.vc, .int .i64 u.home, .int .u64 (u.count : Int)]) := by
        show Bk _ _ _ _
        rw [hW4]
        refine Bk.cast (((((HB3.out).put 0 (.bool u.has)).put 1 (.slice u.va u.vn u.vc)).put 2 (.int .i64 u.home)).put 3 (.int .u64 (u.count : Int))) ?_
        simp only [List.setIfInBounds_toArray, List.set_cons_zero, List.set_cons_succ]
      have HPZ := Lib.hid (HP3.out W4 hx4)
      have HW4 := Lib.hid hW4
      clear hW3 hp3 hx3 hb3 hd3 hx4 hW4
      go_wp2_with fail
      rw [← HW4.out]
      clear HW4 y0 yf0 y1 yf1 y2 yf2 y3 yf3
      have r0 : W4.cell? ⟨q5 + 1, 0, none⟩ = some (.bool u.has) := HB4.out.cell 0
      have r1 : W4.cell? ⟨q5 + 1, 1, none⟩ = some (.slice u.va u.vn u.vc) := HB4.out.cell 1
      have r2 : W4.cell? ⟨q5 + 1, 2, none⟩ = some (.int .i64 u.home) := HB4.out.cell 2
      have r3 : W4.cell? ⟨q5 + 1, 3, none⟩ = some (.int .u64 (u.count : Int)) := HB4.out.cell 3
      refine bodyPost_ret (v := .tuple #[.agg #[.bool u.has, .slice u.va u.vn u.vc, .int .i64 u.home, .int .u64 (u.count : Int)], .bool true]) (by rw [results_cell_tmp rfl]; go_simp) rfl HPZ.out
    | false =>
      have HNF : Hid (¬ ∃ v, hxs[i]? = some (key, v)) := fun h => by have := HFD.out.2 h; cases this
      have HLF := Lib.hid (leafR_any w1 hg hA n hc hB np he B11.out)
      clear HFD
      obtain rfl : np = 0 := HNP.out
      have HLF0 : Hid (Calls Try.prog 72 #[.pointer (some ⟨hg, 0, none⟩)] w1 fun en w' => en = .returned (.bool true) ∧ w1 = w') := HLF.out
      clear HLF
      have HINS : Hid (∀ W, Fr NoBlk w1 W → Bk W w1.heap.size 124 #[.string (bstr key), .bool v.has, .slice v.va v.vn v.vc, .int .i64 v.home, .int .u64 (v.count : Int)] → Calls Try.prog 86 #[.slice hA n hc, .int .i64 i, .slice (some ⟨w1.heap.size, 0, none⟩) 1 1] W (InsQ w1 124 5 hA n ((itsR hxs).take (i * 5) ++ [.string (bstr key), .bool v.has, .slice v.va v.vn v.vc, .int .i64 v.home, .int .u64 (v.count : Int)] ++ (itsR hxs).drop (i * 5)))) := fun W hf hb =>
        (insIR_any W 0 hA n hc i (itsR hxs) (B21.out.fr hf fun _ _ h => h) (Nat.zero_le _) (by rw [HNN.out]; exact HI.out.le) (by rw [HNN.out]; have := HNX.out; omega) w1.heap.size #[.string (bstr key), .bool v.has, .slice v.va v.vn v.vc, .int .i64 v.home, .int .u64 (v.count : Int)] hb rfl (by intro u hu; simp only [List.mem_cons, List.not_mem_nil, or_false] at hu; rcases hu with rfl | rfl | rfl | rfl | rfl <;> rfl) (fun h => by have := (B21.out.lt (ablk_own h)).2; omega)).mono fun e w' h => h.from_ hf
      have c0a : (w1.alloc (.cells #[.string (bstr key), .bool v.has, .slice v.va v.vn v.vc, .int .i64 v.home, .int .u64 (v.count : Int)] 124)).cell? ⟨hg, 0, none⟩ = some (.slice hA n hc) := (B11.out.alloc _).cell 0
      have v0 : w1.cell? ⟨q5, 0, none⟩ = some (.bool v.has) := HV51.out.cell 0
      have v1 : w1.cell? ⟨q5, 1, none⟩ = some (.slice v.va v.vn v.vc) := HV51.out.cell 1
      have v2 : w1.cell? ⟨q5, 2, none⟩ = some (.int .i64 v.home) := HV51.out.cell 2
      have v3 : w1.cell? ⟨q5, 3, none⟩ = some (.int .u64 (v.count : Int)) := HV51.out.cell 3
      go_wp2_with fail
      refine HLF0.out.mono ?_
      rintro e w2 ⟨rfl, rfl⟩
      clear HLF0
      go_wp2_with fail
      go_region_with (refine (HINS.out _ ?_ ?_).mono ?_; (first | exact ((Fr.refl _ _).alloc _).drew | exact (Fr.refl _ _).drew.alloc _); (first | exact Bk.fr (Bk.new _ _ _) (Fr.refl NoBlk _).drew (fun h => h) | exact Bk.new _ _ _); rintro e w3 ⟨A3, c3, rfl, hr3, hf3, hb3⟩; have HR3 := Lib.hid hr3; have HF3 := Lib.hid hf3; have HB3 := Lib.hid hb3; clear hr3 hf3 hb3; have HN3 := Lib.hid (B11.out.fr HF3.out (fun h => B21.out.ne_ B11.out (by decide) h)); have c1 := HN3.out.cell 0; have f1 := HN3.out.free 0)
      all_goals
        obtain ⟨W4, hW4⟩ : ∃ W4, W4 = w3.setCell ⟨hg, 0, none⟩ (.slice A3 (n + 1) c3) := ⟨_, rfl⟩
        rw [← hW4]
        have hf34 : Fr (fun b => b = hg) w3 W4 := by rw [hW4]; exact (Fr.refl (fun b => b = hg) w3).setCell (p := ⟨hg, 0, none⟩) (fun _ => rfl) _
        have hB4 : Bk W4 hg 102 #[.slice A3 (n + 1) c3, .slice hB 0 he] := by rw [hW4]; exact HN3.out.put 0 _
        have hzl := HF1.out.size
        have hzl2 := HF3.out.size
        have hgl := B1.out.lt
        have hA3 : ¬ ablk A3 hg := fun e => by
          rcases HB3.out _ e with h | h
          · exact B21.out.ne_ B11.out (by decide) h
          · omega
        have hR4 : RowW W4 0 124 5 (.slice A3 (n + 1) c3) (n + 1) (itsR (hxs.take i ++ (key, v) :: hxs.drop i)) := by
          have h2 := HR3.out.fr hf34 fun k hk e => hA3 (e ▸ own_ablk hk)
          rw [itsR_append, itsR_take, show itsR ((key, v) :: hxs.drop i) = [.string (bstr key), .bool v.has, .slice v.va v.vn v.vc, .int .i64 v.home, .int .u64 (v.count : Int)] ++ itsR (hxs.drop i) from rfl, itsR_drop, ← List.append_assoc]
          exact h2
        have hP4 : RowW W4 0 98 1 (.slice hB 0 he) 0 [] := (B31.out.fr HF3.out fun k hk e => by
            obtain ⟨cur, h1⟩ := B31.out.blk' hk
            exact B21.out.ne_ h1 (by decide) e).fr hf34 fun k hk e => by
            obtain ⟨cur, h1⟩ := B31.out.blk' hk
            exact h1.apart B11.out (by decide) e
        have hF : Fr (Hd.mk hg hA hc hB he hxs).own w W4 := (((HF1.out.mono fun _ _ h => h.elim).step HF3.out fun b _ h => .inr (.inl h))).step hf34 fun b _ h => .inl h
        have hle := HI.out.le
        have hnl : n + 1 = (hxs.take i ++ (key, v) :: hxs.drop i).length := by rw [HNN.out]; simp only [List.length_append, List.length_cons, List.length_take, List.length_drop]; omega
        have hE : t = ⟨hg, hA, hc, hB, he, hxs⟩ := HE.out
        have hfl : t.flat = hxs := by rw [hE]; rfl
        have hown : ∀ b, (Tr.own t b) ↔ (Hd.mk hg hA hc hB he hxs).own b := fun b => by rw [hE]; exact Iff.rfl
        have htn : t.n = n := by rw [HNN.out, hE]; rfl
        have hp4 : PutRPost w t key v (.returned (.tuple #[.agg #[.bool false, .slice none 0 0, .int .i64 0, .int .u64 0], .bool false])) W4 := by
          refine ⟨(VaR.mk false none 0 0 0 0 : VaR), false, .leaf ⟨hg, A3, c3, hB, he, hxs.take i ++ (key, v) :: hxs.drop i⟩, rfl, .inr ⟨rfl, rfl, by rw [hfl]; exact HI.out.no linS HUX.out HNF.out⟩, ⟨Hd.lies_mk hB4 hR4 hP4 hnl rfl rfl rfl, trivial, trivial⟩, ?_, by rw [hE]; rfl, by rw [htn]; show n ≤ (hxs.take i ++ (key, v) :: hxs.drop i).length; omega, by rw [htn]; show (hxs.take i ++ (key, v) :: hxs.drop i).length ≤ n + 1; omega, (fun h => by cases h), ⟨hF.mono fun b _ h => (hown b).2 h, fun b hb => ?_⟩⟩
          · rw [hfl, HI.out.put linS HUX.out HNF.out]; rfl
          · rcases hb with hb | hb | hb
            · exact .inl ((hown b).2 (.inl hb))
            · rcases HB3.out b hb with h | h
              · exact .inl ((hown b).2 (.inr (.inl h)))
              · exact .inr (by omega)
            · exact .inl ((hown b).2 (.inr (.inr hb)))
        have hq6 : ∀ b, ablk hA b → b ≠ q5 + 1 := fun b hb e => by
          obtain ⟨x, hx1, hx2⟩ := hb
          have := HGL.out.2.1 x hx1
          omega
        have HB4 : Hid (Bk W4 (q5 + 1) 38 #[.bool false, .slice none 0 0, .int .i64 0, .int .u64 0]) := (HV61.out.fr HF3.out fun h => hq6 _ h rfl).fr hf34 (by have := HGL.out.1; omega)
        have HP4 : Hid (∀ W, Fr (fun k => k = q5 + 1) W4 W → PutRPost w t key v (.returned (.tuple #[.agg #[.bool false, .slice none 0 0, .int .i64 0, .int .u64 0], .bool false])) W) := fun W hW => hp4.box (q := q5 + 1) hW HB4.out (by have := HGL.out.2.2; omega)
        clear hp4 hq6 hf34 hB4 hzl hzl2 hgl hA3 hR4 hP4 hF hle hnl hE hfl hown htn hW4
        have y0 : W4.cell? ⟨q5 + 1, 0, none⟩ = some (.bool false) := HB4.out.cell 0
        have y1 : W4.cell? ⟨q5 + 1, 1, none⟩ = some (.slice none 0 0) := HB4.out.cell 1
        have y2 : W4.cell? ⟨q5 + 1, 2, none⟩ = some (.int .i64 0) := HB4.out.cell 2
        have y3 : W4.cell? ⟨q5 + 1, 3, none⟩ = some (.int .u64 0) := HB4.out.cell 3
        have yf0 := HB4.out.free 0
        have yf1 := HB4.out.free 1
        have yf2 := HB4.out.free 2
        have yf3 := HB4.out.free 3
        obtain ⟨W5, hW5⟩ : ∃ W5, W5 = ((((W4).setCell ⟨q5 + 1, 0, none⟩ (.bool false)).setCell ⟨q5 + 1, 1, none⟩ (.slice none 0 0)).setCell ⟨q5 + 1, 2, none⟩ (.int .i64 0)).setCell ⟨q5 + 1, 3, none⟩ (.int .u64 0) := ⟨_, rfl⟩
        have hx5 : Fr (fun k => k = q5 + 1) W4 W5 := by
          rw [hW5]
          exact ((((Fr.refl (fun k => k = q5 + 1) W4).setCell (p := ⟨q5 + 1, 0, none⟩) (fun _ => rfl) _).setCell (p := ⟨q5 + 1, 1, none⟩) (fun _ => rfl) _).setCell (p := ⟨q5 + 1, 2, none⟩) (fun _ => rfl) _).setCell (p := ⟨q5 + 1, 3, none⟩) (fun _ => rfl) _
        have HB5 : Hid (Bk W5 (q5 + 1) 38 #[.bool false, .slice none 0 0, .int .i64 0, .int .u64 0]) := by
          show Bk _ _ _ _
          rw [hW5]
          refine Bk.cast (((((HB4.out).put 0 (.bool false)).put 1 (.slice none 0 0)).put 2 (.int .i64 0)).put 3 (.int .u64 0)) ?_
          simp only [List.setIfInBounds_toArray, List.set_cons_zero, List.set_cons_succ]
        have HPZ := Lib.hid (HP4.out W5 hx5)
        have HW5 := Lib.hid hW5
        clear hW5 hx5
        go_wp2_with fail
        rw [← HW5.out]
        clear HW5 y0 yf0 y1 yf1 y2 yf2 y3 yf3
        have r0 : W5.cell? ⟨q5 + 1, 0, none⟩ = some (.bool false) := HB5.out.cell 0
        have r1 : W5.cell? ⟨q5 + 1, 1, none⟩ = some (.slice none 0 0) := HB5.out.cell 1
        have r2 : W5.cell? ⟨q5 + 1, 2, none⟩ = some (.int .i64 0) := HB5.out.cell 2
        have r3 : W5.cell? ⟨q5 + 1, 3, none⟩ = some (.int .u64 0) := HB5.out.cell 3
        refine bodyPost_ret (v := .tuple #[.agg #[.bool false, .slice none 0 0, .int .i64 0, .int .u64 0], .bool false]) (by rw [results_cell_tmp rfl]; go_simp) rfl HPZ.out
  | succ d ih =>
    intro w t o hu hn
    have HO := Lib.hid o
    have HU := Lib.hid hu
    have hl := Tr.lies_hd o.lies
    have hux : UpI Op.bytesLess t.hd.xs := hu.sub (Tr.sub_hd t)
    have hnx : t.hd.xs.length ≤ 16 := hn
    have HN := Lib.hid hn
    have hgg : t.g = t.hd.g := rfl
    rw [hgg]
    generalize hh : t.hd = h at hl hux hnx ⊢
    have HE := Lib.hid hh
    clear hh hgg o hu hn
    obtain ⟨hg, hA, hc, hB, he, hxs⟩ := h
    obtain ⟨b1, b2, b3⟩ := hl
    unfold tkR at b1 b2 b3
    dsimp only at b1 b2 b3 hux hnx
    obtain ⟨q5, hq5⟩ : ∃ q, q = w.heap.size := ⟨_, rfl⟩
    obtain ⟨w0, hw0⟩ : ∃ w0, w0 = (w.alloc (.cells #[.bool v.has, .slice v.va v.vn v.vc, .int .i64 v.home, .int .u64 (v.count : Int)] 38)).alloc (.cells #[.bool false, .slice none 0 0, .int .i64 0, .int .u64 0] 38) := ⟨_, rfl⟩
    have hf0 : Fr NoBlk w w0 := by rw [hw0]; exact ((Fr.refl _ _).alloc _).alloc _
    have HV5 : Hid (Bk w0 q5 38 #[.bool v.has, .slice v.va v.vn v.vc, .int .i64 v.home, .int .u64 (v.count : Int)]) := by show Bk _ _ _ _; rw [hw0, hq5]; exact (Bk.new _ _ _).alloc _
    have HV6 : Hid (Bk w0 (q5 + 1) 38 #[.bool false, .slice none 0 0, .int .i64 0, .int .u64 0]) := by show Bk _ _ _ _; rw [hw0, hq5]; have h := Bk.new (w.alloc (.cells #[.bool v.has, .slice v.va v.vn v.vc, .int .i64 v.home, .int .u64 (v.count : Int)] 38)) 38 #[.bool false, .slice none 0 0, .int .i64 0, .int .u64 0]; rw [World.size_alloc] at h; exact h
    have HFD := Lib.hid (findR_any w0 hA hc hxs key (b2.rd.nofr hf0) hux (by omega))
    have HNX := Lib.hid hnx
    obtain ⟨n, hnn⟩ : ∃ n, n = hxs.length := ⟨_, rfl⟩
    have HNN := Lib.hid hnn
    rw [← hnn] at b1 b2 HFD
    obtain ⟨np, hnp⟩ : ∃ np, np = t.ptrs.length := ⟨_, rfl⟩
    have HNP := Lib.hid hnp
    rw [← hnp] at b1 b3
    have B1 := Lib.hid b1
    have B2 := Lib.hid b2
    have B3 := Lib.hid b3
    have HUX := Lib.hid hux
    have c0 : w0.cell? ⟨hg, 0, none⟩ = some (.slice hA n hc) := (b1.fr hf0 fun e => e).cell 0
    have HGL : Hid (hg < q5 ∧ (∀ a, hA = some a → a.block < q5) ∧ w.heap.size = q5) := ⟨by have := b1.lt; omega, fun a e => (by obtain ⟨cur, h⟩ := b2.blk' (ablk_own ⟨a, e, rfl⟩); have := h.lt; omega), hq5.symm⟩
    have HF0 := Lib.hid hf0
    have HW0 := Lib.hid hw0
    have HQ5 := Lib.hid hq5
    clear b1 b2 b3 hnn hnp hux hnx hf0 hw0 hq5
    go_enter Try.func80, Try.ntmps80
    go_upto_region 1 with fail
    rw [← HW0.out, ← HQ5.out]
    clear HW0 HQ5
    go_wp2_with fail
    refine HFD.out.mono ?_
    clear HFD
    rintro e w1 ⟨i, fd, rfl, hi, hfd, hf1'⟩
    have hf1 : Fr NoBlk w w1 := HF0.out.trans hf1'
    have HV51 := Lib.hid (HV5.out.fr hf1' fun e => e)
    have HV61 := Lib.hid (HV6.out.fr hf1' fun e => e)
    clear HV5 HV6 HF0 hf1'
    have HI := Lib.hid hi
    have HFD := Lib.hid hfd
    have HF1 := Lib.hid hf1
    have B11 := Lib.hid (B1.out.fr hf1 fun h => h)
    have B21 := Lib.hid (B2.out.fr hf1 fun _ _ h => h)
    have B31 := Lib.hid (B3.out.fr hf1 fun _ _ h => h)
    have c0 : w1.cell? ⟨hg, 0, none⟩ = some (.slice hA n hc) := B11.out.cell 0
    clear hi hfd hf1
    cases fd with
    | true =>
      obtain ⟨u, hx⟩ := HFD.out.1 rfl
      have hin : i < n := by rw [HNN.out]; exact (List.getElem?_eq_some_iff.1 hx).1
      obtain ⟨a, rfl⟩ := B21.out.addr (by omega)
      have HX := Lib.hid hx
      have d1 : w1.cell? ⟨a, i * 5 + 1, none⟩ = some (.bool u.has) := by have := B21.out; exact (RowW.cellR this hx).2.1
      have d1x1 : w1.cell? ⟨a, i * 5 + 2, none⟩ = some (.slice u.va u.vn u.vc) := by have := B21.out; exact (RowW.cellR this hx).2.2.1
      have d1x2 : w1.cell? ⟨a, i * 5 + 3, none⟩ = some (.int .i64 u.home) := by have := B21.out; exact (RowW.cellR this hx).2.2.2.1
      have d1x3 : w1.cell? ⟨a, i * 5 + 4, none⟩ = some (.int .u64 (u.count : Int)) := by have := B21.out; exact (RowW.cellR this hx).2.2.2.2
      have f1 := B21.out.frz (i * 5 + 1)
      have f1x1 := B21.out.frz (i * 5 + 2)
      have f1x2 := B21.out.frz (i * 5 + 3)
      have f1x3 := B21.out.frz (i * 5 + 4)
      have hag : a < q5 := HGL.out.2.1 _ rfl
      have hgq := HGL.out.1
      have z0 : w1.cell? ⟨q5 + 1, 0, none⟩ = some (.bool false) := HV61.out.cell 0
      have z1 : w1.cell? ⟨q5 + 1, 1, none⟩ = some (.slice none 0 0) := HV61.out.cell 1
      have z2 : w1.cell? ⟨q5 + 1, 2, none⟩ = some (.int .i64 0) := HV61.out.cell 2
      have z3 : w1.cell? ⟨q5 + 1, 3, none⟩ = some (.int .u64 0) := HV61.out.cell 3
      have zf0 := HV61.out.free 0
      have zf1 := HV61.out.free 1
      have zf2 := HV61.out.free 2
      have zf3 := HV61.out.free 3
      obtain ⟨W2, hW2⟩ : ∃ W2, W2 = ((((w1).setCell ⟨q5 + 1, 0, none⟩ (.bool u.has)).setCell ⟨q5 + 1, 1, none⟩ (.slice u.va u.vn u.vc)).setCell ⟨q5 + 1, 2, none⟩ (.int .i64 u.home)).setCell ⟨q5 + 1, 3, none⟩ (.int .u64 (u.count : Int)) := ⟨_, rfl⟩
      have hx2 : Fr (fun k => k = q5 + 1) w1 W2 := by
        rw [hW2]
        exact ((((Fr.refl (fun k => k = q5 + 1) w1).setCell (p := ⟨q5 + 1, 0, none⟩) (fun _ => rfl) _).setCell (p := ⟨q5 + 1, 1, none⟩) (fun _ => rfl) _).setCell (p := ⟨q5 + 1, 2, none⟩) (fun _ => rfl) _).setCell (p := ⟨q5 + 1, 3, none⟩) (fun _ => rfl) _
      have HB6 : Hid (Bk W2 (q5 + 1) 38 #[.bool u.has, .slice u.va u.vn u.vc, .int .i64 u.home, .int .u64 (u.count : Int)]) := by
        show Bk _ _ _ _
        rw [hW2]
        refine Bk.cast (((((HV61.out).put 0 (.bool u.has)).put 1 (.slice u.va u.vn u.vc)).put 2 (.int .i64 u.home)).put 3 (.int .u64 (u.count : Int))) ?_
        simp only [List.setIfInBounds_toArray, List.set_cons_zero, List.set_cons_succ]
      have HB5 : Hid (Bk W2 q5 38 #[.bool v.has, .slice v.va v.vn v.vc, .int .i64 v.home, .int .u64 (v.count : Int)]) := HV51.out.fr hx2 (by omega)
      have HN2 : Hid (Bk W2 hg 102 #[.slice (some ⟨a, 0, none⟩) n hc, .slice hB np he]) := B11.out.fr hx2 (by omega)
      have HR2 : Hid (RowW W2 0 124 5 (.slice (some ⟨a, 0, none⟩) n hc) n (itsR hxs)) := B21.out.fr hx2 fun k hk e => by injection hk with hk; have hk2 : a = k := hk; omega
      have HFW2 : Hid (Fr NoBlk w W2) := HF1.out.step hx2 fun i hi e => by have := HGL.out.2.2; omega
      have e0 : W2.cell? ⟨hg, 0, none⟩ = some (.slice (some ⟨a, 0, none⟩) n hc) := HN2.out.cell 0
      have e0d : W2.drew.cell? ⟨hg, 0, none⟩ = some (.slice (some ⟨a, 0, none⟩) n hc) := e0
      have v0 : W2.cell? ⟨q5, 0, none⟩ = some (.bool v.has) := HB5.out.cell 0
      have v1 : W2.cell? ⟨q5, 1, none⟩ = some (.slice v.va v.vn v.vc) := HB5.out.cell 1
      have v2 : W2.cell? ⟨q5, 2, none⟩ = some (.int .i64 v.home) := HB5.out.cell 2
      have v3 : W2.cell? ⟨q5, 3, none⟩ = some (.int .u64 (v.count : Int)) := HB5.out.cell 3
      have vd0 : W2.drew.cell? ⟨q5, 0, none⟩ = some (.bool v.has) := (HB5.out.fr (Fr.refl NoBlk _).drew fun e => e).cell 0
      have vd1 : W2.drew.cell? ⟨q5, 1, none⟩ = some (.slice v.va v.vn v.vc) := (HB5.out.fr (Fr.refl NoBlk _).drew fun e => e).cell 1
      have vd2 : W2.drew.cell? ⟨q5, 2, none⟩ = some (.int .i64 v.home) := (HB5.out.fr (Fr.refl NoBlk _).drew fun e => e).cell 2
      have vd3 : W2.drew.cell? ⟨q5, 3, none⟩ = some (.int .u64 (v.count : Int)) := (HB5.out.fr (Fr.refl NoBlk _).drew fun e => e).cell 3
      have g0 : W2.cell? ⟨a, i * 5 + 1, none⟩ = some (.bool u.has) := (RowW.cellR HR2.out hx).2.1
      have gd0 : W2.drew.cell? ⟨a, i * 5 + 1, none⟩ = some (.bool u.has) := g0
      have gf0 : W2.frozen? ⟨a, i * 5 + 1, none⟩ = false := HR2.out.frz _
      have gfd0 : W2.drew.frozen? ⟨a, i * 5 + 1, none⟩ = false := gf0
      have g1 : W2.cell? ⟨a, i * 5 + 2, none⟩ = some (.slice u.va u.vn u.vc) := (RowW.cellR HR2.out hx).2.2.1
      have gd1 : W2.drew.cell? ⟨a, i * 5 + 2, none⟩ = some (.slice u.va u.vn u.vc) := g1
      have gf1 : W2.frozen? ⟨a, i * 5 + 2, none⟩ = false := HR2.out.frz _
      have gfd1 : W2.drew.frozen? ⟨a, i * 5 + 2, none⟩ = false := gf1
      have g2 : W2.cell? ⟨a, i * 5 + 3, none⟩ = some (.int .i64 u.home) := (RowW.cellR HR2.out hx).2.2.2.1
      have gd2 : W2.drew.cell? ⟨a, i * 5 + 3, none⟩ = some (.int .i64 u.home) := g2
      have gf2 : W2.frozen? ⟨a, i * 5 + 3, none⟩ = false := HR2.out.frz _
      have gfd2 : W2.drew.frozen? ⟨a, i * 5 + 3, none⟩ = false := gf2
      have g3 : W2.cell? ⟨a, i * 5 + 4, none⟩ = some (.int .u64 (u.count : Int)) := (RowW.cellR HR2.out hx).2.2.2.2
      have gd3 : W2.drew.cell? ⟨a, i * 5 + 4, none⟩ = some (.int .u64 (u.count : Int)) := g3
      have gf3 : W2.frozen? ⟨a, i * 5 + 4, none⟩ = false := HR2.out.frz _
      have gfd3 : W2.drew.frozen? ⟨a, i * 5 + 4, none⟩ = false := gf3
      have i1 : (0 : Int) ≤ (i : Int) := by omega
      have i2 : (i : Int) < (n : Int) := by omega
      have HW2 := Lib.hid hW2
      clear hx hx2 hW2
      go_upto_region 4 with fail
      rw [← HW2.out]
      clear HW2
      go_region
      obtain ⟨W3, hW3⟩ : ∃ W3, W3 = (((((W2).setCell ⟨a, i * 5 + 1, none⟩ (.bool v.has)).setCell ⟨a, i * 5 + 1 + 1, none⟩ (.slice v.va v.vn v.vc)).setCell ⟨a, i * 5 + 1 + 2, none⟩ (.int .i64 v.home)).setCell ⟨a, i * 5 + 1 + 3, none⟩ (.int .u64 (v.count : Int))).drew := ⟨_, rfl⟩
      rw [← hW3]
      have hp3 : PutRPost w t key v (.returned (.tuple #[.agg #[.bool u.has, .slice u.va u.vn u.vc, .int .i64 u.home, .int .u64 (u.count : Int)], .bool true])) (((((W2).setCell ⟨a, i * 5 + 1, none⟩ (.bool v.has)).setCell ⟨a, i * 5 + 1 + 1, none⟩ (.slice v.va v.vn v.vc)).setCell ⟨a, i * 5 + 1 + 2, none⟩ (.int .i64 v.home)).setCell ⟨a, i * 5 + 1 + 3, none⟩ (.int .u64 (v.count : Int))) := putR_found HO.out HU.out (by rw [HE.out]; exact HX.out) HFW2.out (by rw [HE.out])
      have hx3 : Fr (fun k => k = a) W2 (((((W2).setCell ⟨a, i * 5 + 1, none⟩ (.bool v.has)).setCell ⟨a, i * 5 + 1 + 1, none⟩ (.slice v.va v.vn v.vc)).setCell ⟨a, i * 5 + 1 + 2, none⟩ (.int .i64 v.home)).setCell ⟨a, i * 5 + 1 + 3, none⟩ (.int .u64 (v.count : Int))) := ((((Fr.refl (fun k => k = a) W2).setCell (p := ⟨a, i * 5 + 1, none⟩) (fun _ => rfl) _).setCell (p := ⟨a, i * 5 + 1 + 1, none⟩) (fun _ => rfl) _).setCell (p := ⟨a, i * 5 + 1 + 2, none⟩) (fun _ => rfl) _).setCell (p := ⟨a, i * 5 + 1 + 3, none⟩) (fun _ => rfl) _
      have hb3 : Bk (((((W2).setCell ⟨a, i * 5 + 1, none⟩ (.bool v.has)).setCell ⟨a, i * 5 + 1 + 1, none⟩ (.slice v.va v.vn v.vc)).setCell ⟨a, i * 5 + 1 + 2, none⟩ (.int .i64 v.home)).setCell ⟨a, i * 5 + 1 + 3, none⟩ (.int .u64 (v.count : Int))) (q5 + 1) 38 #[.bool u.has, .slice u.va u.vn u.vc, .int .i64 u.home, .int .u64 (u.count : Int)] := HB6.out.fr hx3 (by omega)
      have hd3 : Fr NoBlk (((((W2).setCell ⟨a, i * 5 + 1, none⟩ (.bool v.has)).setCell ⟨a, i * 5 + 1 + 1, none⟩ (.slice v.va v.vn v.vc)).setCell ⟨a, i * 5 + 1 + 2, none⟩ (.int .i64 v.home)).setCell ⟨a, i * 5 + 1 + 3, none⟩ (.int .u64 (v.count : Int))) W3 := by rw [hW3]; exact (Fr.refl _ _).drew
      have HB3 : Hid (Bk W3 (q5 + 1) 38 #[.bool u.has, .slice u.va u.vn u.vc, .int .i64 u.home, .int .u64 (u.count : Int)]) := hb3.fr hd3 fun e => e
      have HP3 : Hid (∀ W, Fr (fun k => k = q5 + 1) W3 W → PutRPost w t key v (.returned (.tuple #[.agg #[.bool u.has, .slice u.va u.vn u.vc, .int .i64 u.home, .int .u64 (u.count : Int)], .bool true])) W) := fun W hW => hp3.box (q := q5 + 1) ((hd3.mono fun _ _ e => e.elim).trans hW) hb3 (by have := HGL.out.2.2; omega)
      have y0 : W3.cell? ⟨q5 + 1, 0, none⟩ = some (.bool u.has) := HB3.out.cell 0
      have y1 : W3.cell? ⟨q5 + 1, 1, none⟩ = some (.slice u.va u.vn u.vc) := HB3.out.cell 1
      have y2 : W3.cell? ⟨q5 + 1, 2, none⟩ = some (.int .i64 u.home) := HB3.out.cell 2
      have y3 : W3.cell? ⟨q5 + 1, 3, none⟩ = some (.int .u64 (u.count : Int)) := HB3.out.cell 3
      have yf0 := HB3.out.free 0
      have yf1 := HB3.out.free 1
      have yf2 := HB3.out.free 2
      have yf3 := HB3.out.free 3
      obtain ⟨W4, hW4⟩ : ∃ W4, W4 = ((((W3).setCell ⟨q5 + 1, 0, none⟩ (.bool u.has)).setCell ⟨q5 + 1, 1, none⟩ (.slice u.va u.vn u.vc)).setCell ⟨q5 + 1, 2, none⟩ (.int .i64 u.home)).setCell ⟨q5 + 1, 3, none⟩ (.int .u64 (u.count : Int)) := ⟨_, rfl⟩
      have hx4 : Fr (fun k => k = q5 + 1) W3 W4 := by
        rw [hW4]
        exact ((((Fr.refl (fun k => k = q5 + 1) W3).setCell (p := ⟨q5 + 1, 0, none⟩) (fun _ => rfl) _).setCell (p := ⟨q5 + 1, 1, none⟩) (fun _ => rfl) _).setCell (p := ⟨q5 + 1, 2, none⟩) (fun _ => rfl) _).setCell (p := ⟨q5 + 1, 3, none⟩) (fun _ => rfl) _
      have HB4 : Hid (Bk W4 (q5 + 1) 38 #[.bool u.has, .slice u.va u.vn u.vc, .int .i64 u.home, .int .u64 (u.count : Int)]) := by
        show Bk _ _ _ _
        rw [hW4]
        refine Bk.cast (((((HB3.out).put 0 (.bool u.has)).put 1 (.slice u.va u.vn u.vc)).put 2 (.int .i64 u.home)).put 3 (.int .u64 (u.count : Int))) ?_
        simp only [List.setIfInBounds_toArray, List.set_cons_zero, List.set_cons_succ]
      have HPZ := Lib.hid (HP3.out W4 hx4)
      have HW4 := Lib.hid hW4
      clear hW3 hp3 hx3 hb3 hd3 hx4 hW4
      go_wp2_with fail
      rw [← HW4.out]
      clear HW4 y0 yf0 y1 yf1 y2 yf2 y3 yf3
      have r0 : W4.cell? ⟨q5 + 1, 0, none⟩ = some (.bool u.has) := HB4.out.cell 0
      have r1 : W4.cell? ⟨q5 + 1, 1, none⟩ = some (.slice u.va u.vn u.vc) := HB4.out.cell 1
      have r2 : W4.cell? ⟨q5 + 1, 2, none⟩ = some (.int .i64 u.home) := HB4.out.cell 2
      have r3 : W4.cell? ⟨q5 + 1, 3, none⟩ = some (.int .u64 (u.count : Int)) := HB4.out.cell 3
      refine bodyPost_ret (v := .tuple #[.agg #[.bool u.has, .slice u.va u.vn u.vc, .int .i64 u.home, .int .u64 (u.count : Int)], .bool true]) (by rw [results_cell_tmp rfl]; go_simp) rfl HPZ.out
    | false =>
      have HNF : Hid (¬ ∃ v, hxs[i]? = some (key, v)) := fun h => by have := HFD.out.2 h; cases this
      have HLF := Lib.hid (leafR_any w1 hg hA n hc hB np he B11.out)
      clear HFD
      have HF1D : Hid (Fr NoBlk w w1.drew) := HF1.out.trans (Fr.refl _ _).drew
      have HV6D : Hid (Bk w1.drew (q5 + 1) 38 #[.bool false, .slice none 0 0, .int .i64 0, .int .u64 0]) := HV61.out.fr (Fr.refl NoBlk _).drew fun e => e
      obtain ⟨h0, ks⟩ := t
      obtain rfl : h0 = ⟨hg, hA, hc, hB, he, hxs⟩ := HE.out
      have hsh : ks.length = hxs.length + 1 := HO.out.shape.1
      have hnpk : np = ks.length := HNP.out.trans (List.length_map _)
      have hle := HI.out.le
      obtain ⟨k, hk⟩ : ∃ k, ks[i]? = some k := ⟨_, List.getElem?_eq_getElem (by omega)⟩
      obtain ⟨a, b, hab, hal⟩ : ∃ a b, ks = a ++ [k] ++ b ∧ a.length = i := ⟨ks.take i, ks.drop (i + 1), by rw [List.append_assoc]; exact list_mid hk, by rw [List.length_take]; omega⟩
      subst hab
      have hnp0 : ¬ np = 0 := by omega
      have HLF0 : Hid (Calls Try.prog 72 #[.pointer (some ⟨hg, 0, none⟩)] w1 fun en w' => en = .returned (.bool false) ∧ w1 = w') := by
        have := HLF.out
        rw [decide_eq_false hnp0] at this
        exact this
      clear HLF
      have HOK : Hid ((Tr.node ⟨hg, hA, hc, hB, he, hxs⟩ (a ++ [k] ++ b)).ok tkR w) := HO.out
      have HUF : Hid (UpI Op.bytesLess (Tr.node ⟨hg, hA, hc, hB, he, hxs⟩ (a ++ [k] ++ b)).flat) := HU.out
      have hkm : k ∈ a ++ [k] ++ b := by simp
      have HKID : Hid (k.ok tkR w ∧ 8 ≤ k.n ∧ k.n ≤ 16) := HOK.out.kid hkm
      have HSH := Lib.hid hsh
      have HSD : Hid ((∀ p ∈ preW (a.map Tr.flat) (hxs.take a.length), Op.bytesLess p.1 key = true) ∧ ∀ p ∈ postW (hxs.drop a.length) (b.map Tr.flat), Op.bytesLess key p.1 = true) := node_sides linS hsh HUF.out (by rw [hal]; exact HI.out) (by rw [hal]; exact HNF.out)
      have HFM : Hid ((Tr.node ⟨hg, hA, hc, hB, he, hxs⟩ (a ++ [k] ++ b)).flat = preW (a.map Tr.flat) (hxs.take a.length) ++ k.flat ++ postW (hxs.drop a.length) (b.map Tr.flat)) := Tr.flat_mid hsh
      have HIH : Hid (Calls Try.prog 80 #[.pointer (some ⟨k.g, 0, none⟩), .string (bstr key), .agg #[.bool v.has, .slice v.va v.vn v.vc, .int .i64 v.home, .int .u64 (v.count : Int)]] w1.drew (PutRPost w1.drew k key v)) := ih w1.drew k (HKID.out.1.fr HF1D.out fun _ _ h => h) (by
        have h1 := HUF.out
        rw [HFM.out] at h1
        exact h1.sub ((List.sublist_append_right _ _).trans (List.sublist_append_left _ _))) HKID.out.2.2
      have B31K : Hid (RowW w1 0 98 1 (.slice hB np he) np ((a ++ [k] ++ b).map Tr.g |>.map ptr)) := B31.out
      obtain ⟨pb, rfl⟩ := B31K.out.addr (by omega)
      have hki : ((a ++ [k] ++ b).map Tr.g)[i]? = some k.g := by rw [List.getElem?_map, hk]; rfl
      have HKI := Lib.hid hki
      have pc : w1.cell? ⟨pb, i, none⟩ = some (.pointer (some ⟨k.g, 0, none⟩)) := B31K.out.cellP hki
      have c1 : w1.cell? ⟨hg, 1, none⟩ = some (.slice (some ⟨pb, 0, none⟩) np he) := B11.out.cell 1
      have hinp : i < np := by omega
      have HAL := Lib.hid hal
      have HNPK := Lib.hid hnpk
      have HLE := Lib.hid hle
      clear hsh hnpk hle hk hal hnp0 hkm hki
      clear ih
      go_wp2_with fail
      refine HLF0.out.mono ?_
      rintro e w2 ⟨rfl, rfl⟩
      have HNK : Hid (¬ k.own (q5 + 1)) := Tr.not_own (HKID.out.1.fr HF1D.out fun _ _ h => h).lies HV6D.out (by decide) (by decide) (by decide)
      have c1d : w1.drew.cell? ⟨hg, 1, none⟩ = some (.slice (some ⟨pb, 0, none⟩) np he) := c1
      have pcd : w1.drew.cell? ⟨pb, i, none⟩ = some (.pointer (some ⟨k.g, 0, none⟩)) := pc
      have v0 : w1.cell? ⟨q5, 0, none⟩ = some (.bool v.has) := HV51.out.cell 0
      have v1 : w1.cell? ⟨q5, 1, none⟩ = some (.slice v.va v.vn v.vc) := HV51.out.cell 1
      have v2 : w1.cell? ⟨q5, 2, none⟩ = some (.int .i64 v.home) := HV51.out.cell 2
      have v3 : w1.cell? ⟨q5, 3, none⟩ = some (.int .u64 (v.count : Int)) := HV51.out.cell 3
      have vd0 : w1.drew.cell? ⟨q5, 0, none⟩ = some (.bool v.has) := (HV51.out.fr (Fr.refl NoBlk _).drew fun e => e).cell 0
      have vd1 : w1.drew.cell? ⟨q5, 1, none⟩ = some (.slice v.va v.vn v.vc) := (HV51.out.fr (Fr.refl NoBlk _).drew fun e => e).cell 1
      have vd2 : w1.drew.cell? ⟨q5, 2, none⟩ = some (.int .i64 v.home) := (HV51.out.fr (Fr.refl NoBlk _).drew fun e => e).cell 2
      have vd3 : w1.drew.cell? ⟨q5, 3, none⟩ = some (.int .u64 (v.count : Int)) := (HV51.out.fr (Fr.refl NoBlk _).drew fun e => e).cell 3
      clear HLF0
      go_wp2_with fail
      go_region_with (refine HIH.out.mono ?_; rintro e w2 ⟨old, had, k', rfl, hlk, hok, hfl, hgk, hn1, hn2, hnh, hst⟩; have HQ6 := Lib.hid (HV6D.out.fr hst.fr HNK.out); have z0 : w2.cell? ⟨q5 + 1, 0, none⟩ = some (.bool false) := HQ6.out.cell 0; have zf0 := HQ6.out.free 0; have z1 : w2.cell? ⟨q5 + 1, 1, none⟩ = some (.slice none 0 0) := HQ6.out.cell 1; have zf1 := HQ6.out.free 1; have z2 : w2.cell? ⟨q5 + 1, 2, none⟩ = some (.int .i64 0) := HQ6.out.cell 2; have zf2 := HQ6.out.free 2; have z3 : w2.cell? ⟨q5 + 1, 3, none⟩ = some (.int .u64 0) := HQ6.out.cell 3; have zf3 := HQ6.out.free 3; have HPK := Lib.hid (And.intro hlk (And.intro hok (And.intro hfl (And.intro hgk (And.intro hn1 (And.intro hn2 (And.intro hnh hst))))))); clear hlk hok hfl hgk hn1 hn2 hnh hst)
      all_goals
        obtain ⟨hlk, hok, hfl, hgk, hn1, hn2, hnh, hst⟩ := HPK.out
        clear HIH pc c1 c0 c1d pcd HPK z0 zf0 z1 zf1 z2 zf2 z3 zf3 v0 vd0 v1 vd1 v2 vd2 v3 vd3
        obtain ⟨W2, hW2⟩ : ∃ W2, W2 = ((((w2).setCell ⟨q5 + 1, 0, none⟩ (.bool old.has)).setCell ⟨q5 + 1, 1, none⟩ (.slice old.va old.vn old.vc)).setCell ⟨q5 + 1, 2, none⟩ (.int .i64 old.home)).setCell ⟨q5 + 1, 3, none⟩ (.int .u64 (old.count : Int)) := ⟨_, rfl⟩
        have hx2 : Fr (fun b => b = q5 + 1) w2 W2 := by
          rw [hW2]
          exact ((((Fr.refl (fun b => b = q5 + 1) w2).setCell (p := ⟨q5 + 1, 0, none⟩) (fun _ => rfl) _).setCell (p := ⟨q5 + 1, 1, none⟩) (fun _ => rfl) _).setCell (p := ⟨q5 + 1, 2, none⟩) (fun _ => rfl) _).setCell (p := ⟨q5 + 1, 3, none⟩) (fun _ => rfl) _
        have HBQ : Hid (Bk W2 (q5 + 1) 38 #[.bool old.has, .slice old.va old.vn old.vc, .int .i64 old.home, .int .u64 (old.count : Int)]) := by
          show Bk _ _ _ _
          rw [hW2]
          refine Bk.cast (((((HQ6.out).put 0 (.bool old.has)).put 1 (.slice old.va old.vn old.vc)).put 2 (.int .i64 old.home)).put 3 (.int .u64 (old.count : Int))) ?_
          simp only [List.setIfInBounds_toArray, List.set_cons_zero, List.set_cons_succ]
        rw [← hW2]
        clear hW2
        have hnk : ¬ k'.own (q5 + 1) := Tr.not_own hok.lies HQ6.out (by decide) (by decide) (by decide)
        have HX2 := Lib.hid hx2
        clear hx2
        have HD1 : Hid (Dj (Hd.mk hg hA hc (some ⟨pb, 0, none⟩) he hxs).own k.own) := (HOK.out.sep.1 k (by simp)).1
        have HH2 : Hid ((Hd.mk hg hA hc (some ⟨pb, 0, none⟩) he hxs).lies tkR W2 ((a ++ [k'] ++ b).map Tr.g)) := by
          have h1 := (Hd.lies.fr (HOK.out.lies.1.fr HF1D.out fun _ _ h => h) hst.fr HD1.out).fr HX2.out fun b hb e => by have := HOK.out.lies.1.lt hb; have := HGL.out.2.2; omega
          rw [map_mid, hgk, ← map_mid]
          exact h1
        have HLK := Lib.hid hlk
        have HOK2 := Lib.hid (hok.fr HX2.out fun b hb e => hnk (e ▸ hb))
        have HFL := Lib.hid hfl
        have HGK := Lib.hid hgk
        have HN1 := Lib.hid hn1
        have HN2 := Lib.hid hn2
        have HNH := Lib.hid hnh
        have HST := Lib.hid hst
        clear hlk hok hfl hgk hn1 hn2 hnh hst hnk
        obtain ⟨b1, b2, b3⟩ := HH2.out
        obtain ⟨k1, k2, k3⟩ := Tr.lies_hd HOK2.out.lies
        unfold tkR at b1 b2 b3 k1 k2 k3
        dsimp only at b1 b2 b3 k1 k2 k3
        have hnpl : ((a ++ [k'] ++ b).map Tr.g).length = np := by rw [HNPK.out, List.length_map]; simp
        rw [hnpl] at b1 b3
        rw [← HNN.out] at b1 b2
        obtain ⟨kn, hkn⟩ : ∃ kn, kn = k'.hd.xs.length := ⟨_, rfl⟩
        rw [← hkn] at k1 k2
        have hki2 : ((a ++ [k'] ++ b).map Tr.g)[i]? = some k'.hd.g := by
          have h1 := HKI.out
          rw [map_mid] at h1 ⊢
          rw [List.getElem?_append_right (by rw [List.length_map, HAL.out]; omega), List.length_map, HAL.out, Nat.sub_self]
          rfl
        have c1 : W2.cell? ⟨hg, 1, none⟩ = some (.slice (some ⟨pb, 0, none⟩) np he) := b1.cell 1
        have pc : W2.cell? ⟨pb, i, none⟩ = some (.pointer (some ⟨k'.hd.g, 0, none⟩)) := b3.cellP hki2
        have kc0 : W2.cell? ⟨k'.hd.g, 0, none⟩ = some (.slice k'.hd.A kn k'.hd.c) := k1.cell 0
        have HKN := Lib.hid hkn
        have HKI2 := Lib.hid hki2
        clear b1 b2 b3 k1 k2 k3 hnpl hkn hki2
        by_cases h17 : kn = 17
        · have hgt : (16 : Int) < (kn : Int) := by omega
          have HDK : Hid (Dj (Hd.mk hg hA hc (some ⟨pb, 0, none⟩) he hxs).own k'.own) := (HST.out.dj HD1.out.symm fun b hb => Nat.lt_of_lt_of_le (HOK.out.lies.1.lt hb) HF1D.out.size).symm
          have HLN : Hid (((a ++ [k'] ++ b).map Tr.g).length = np) := by show _ = _; rw [HNPK.out, List.length_map]; simp
          have HPT := Lib.hid (partR_any W2 _ k'.hd _ k'.ptrs i HH2.out (Tr.lies_hd HOK2.out.lies) HKI2.out (by have := HLE.out; exact this) (by have := HNX.out; show hxs.length ≤ 100; omega) (by rw [HLN.out, HNPK.out, HSH.out]; have := HNX.out; omega) (by rw [← HKN.out]; exact h17) (by have := Tr.ptrs_len HOK2.out.shape; have h3 : k'.n = 17 := HKN.out.symm.trans h17; rw [h3] at this; exact this) (HDK.out.mono (fun _ h => h) fun _ h => k'.own_hd h))
          go_wp2_with fail
          refine HPT.out.mono ?_
          clear HPT c1 pc kc0
          rintro e w3 ⟨⟨vv, rfl⟩, h', l, r, m, hm, hx', hlx, hrx, hl', hll, hrl, hg', hlg, ho', hlo, hro, hdj, hfr⟩
          have HP := Lib.hid (And.intro hm (And.intro hx' (And.intro hlx (And.intro hrx (And.intro hl' (And.intro hll (And.intro hrl (And.intro hg' (And.intro hlg (And.intro ho' (And.intro hlo (And.intro hro (And.intro hdj hfr)))))))))))))
          clear hm hx' hlx hrx hl' hll hrl hg' hlg ho' hlo hro hdj hfr
          have HPW : Hid (PutRPost w (Tr.node (d := d) ⟨hg, hA, hc, some ⟨pb, 0, none⟩, he, hxs⟩ (a ++ [k] ++ b)) key v (.returned (.tuple #[.agg #[.bool old.has, .slice old.va old.vn old.vc, .int .i64 old.home, .int .u64 (old.count : Int)], .bool had])) w3) := by
            obtain ⟨hm, hx', hlx, hrx, hl', hll, hrl, hg', hlg, ho', hlo, hro, hdj, hfr⟩ := HP.out
            have hKN : k'.n = 17 := HKN.out.symm.trans h17
            obtain ⟨tl, tr, e1, e2, ol, or', hfl2, wl, wr, djl⟩ := Tr.parted hfr HOK2.out hKN hm hlx hrx hll hrl hlo hro (fun b hb => by
              rcases hb with hb | hb
              · exact .inr fun hk => HDK.out b hb hk
              · exact .inl hb)
            have hz1 := HF1D.out.size
            have hz2 := HST.out.fr.size
            have hz3 := HX2.out.size
            have hkl : ∀ x, k'.own x → k.own x ∨ w.heap.size ≤ x := fun x hx => by
              rcases HST.out.new x hx with h | h
              · exact .inl h
              · exact .inr (by omega)
            have hseg := Tr.ok_seg (m := [k]) (m' := [tl, tr]) (h' := h') (C := fun x => (Hd.mk hg hA hc (some ⟨pb, 0, none⟩) he hxs).own x ∨ k.own x) HOK.out
              (((HF1D.out.mono fun _ _ h => h.elim).step HST.out.fr fun _ _ h => .inr h).step HX2.out (fun i hi e => by have := HGL.out.2.2; omega) |>.step hfr fun x hx h => by
                rcases h with h | h
                · exact .inl h
                · rcases hkl x (k'.own_hd h) with h2 | h2
                  · exact .inr h2
                  · omega)
              (fun x hx => by rcases hx with h | h; exact .inl h; exact .inr ⟨k, List.mem_singleton.2 rfl, h⟩)
              (by
                have e3 : (a ++ [k'] ++ b).map Tr.g = a.map Tr.g ++ k'.g :: b.map Tr.g := map_mid _ _ _ _
                have e4 : (a ++ [tl, tr] ++ b).map Tr.g = a.map Tr.g ++ k'.g :: r.g :: b.map Tr.g := by
                  simp only [List.map_append, List.map_cons, List.append_assoc, List.cons_append, List.nil_append]
                  rw [show Tr.g tl = k'.g from (congrArg Hd.g e1).trans hlg, show Tr.g tr = r.g from congrArg Hd.g e2]
                have h1 := hl'
                rw [e3] at h1
                rw [e4]
                have hal : (a.map Tr.g).length = i := by rw [List.length_map]; exact HAL.out
                have e5 : (a.map Tr.g ++ k'.g :: b.map Tr.g).take (i + 1) = a.map Tr.g ++ [k'.g] := by rw [← hal, List.take_length_add_append]; rfl
                have e6 : (a.map Tr.g ++ k'.g :: b.map Tr.g).drop (i + 1) = b.map Tr.g := by rw [← hal, List.drop_length_add_append]; rfl
                rw [e5, e6, List.append_assoc] at h1
                exact h1)
              (fun x hx => by
                rcases ho' x hx with h | h
                · exact .inl h
                · exact .inr (.inr (by omega)))
              (by
                have hk1 : ∀ x, tl.own x → (∃ q ∈ [k], q.own x) ∨ (Hd.mk hg hA hc (some ⟨pb, 0, none⟩) he hxs).own x ∨ w.heap.size ≤ x := fun x hx => by
                  rcases hkl x (wl x hx) with h | h
                  · exact .inl ⟨k, List.mem_singleton.2 rfl, h⟩
                  · exact .inr (.inr h)
                have hk2 : ∀ x, tr.own x → (∃ q ∈ [k], q.own x) ∨ (Hd.mk hg hA hc (some ⟨pb, 0, none⟩) he hxs).own x ∨ w.heap.size ≤ x := fun x hx => by
                  rcases wr x hx with h | h
                  · exact .inr (.inr (by have := hro x h; omega))
                  · rcases hkl x h with h | h
                    · exact .inl ⟨k, List.mem_singleton.2 rfl, h⟩
                    · exact .inr (.inr h)
                have hd1 : Dj h'.own k'.own := fun x h1 h2 => by
                  rcases ho' x h1 with h | h
                  · exact HDK.out x h h2
                  · have := HOK2.out.lt h2; omega
                have hkx : k'.hd.xs.length = 17 := hKN
                intro q hq
                rcases List.mem_cons.1 hq with rfl | hq
                · refine ⟨ol, ?_, ?_, hk1, fun x h1 h2 => hd1 x h1 (wl x h2)⟩
                  · show 8 ≤ q.hd.xs.length; rw [e1, hlx, List.length_take, hkx]; decide
                  · show q.hd.xs.length ≤ 16; rw [e1, hlx, List.length_take, hkx]; decide
                · obtain rfl := List.mem_singleton.1 hq
                  refine ⟨or', ?_, ?_, hk2, fun x h1 h2 => ?_⟩
                  · show 8 ≤ q.hd.xs.length; rw [e2, hrx, List.length_drop, hkx]; decide
                  · show q.hd.xs.length ≤ 16; rw [e2, hrx, List.length_drop, hkx]; decide
                  · rcases wr x h2 with h | h
                    · exact hdj x h1 h
                    · exact hd1 x h1 h)
              (by rw [List.pairwise_cons]; exact ⟨fun q hq => by obtain rfl := List.mem_singleton.1 hq; exact djl, List.pairwise_singleton _ _⟩)
              (by
                have h1 := HSH.out
                have h3 := HLE.out
                rw [hx']
                simp only [List.length_append, List.length_cons, List.length_nil, List.length_take, List.length_drop] at h1 ⊢
                omega)
            have hal := HAL.out
            have hle2 := HLE.out
            have hlen := HSH.out
            refine ⟨old, had, .node h' (a ++ [tl, tr] ++ b), rfl, ?_, hseg.1, ?_, hg', ?_, ?_, (fun hh => by have h3 : k'.n = k.n := HNH.out hh; have h4 := HKID.out.2.2; omega), hseg.2⟩
            · show Lk _ _ (Tr.node _ _).flat _ _
              rw [HFM.out]
              exact HLK.out.mid linS HSD.out.1 HSD.out.2
            · show _ = putL _ _ _ (Tr.node _ _).flat
              rw [HFM.out, putL_mid linS HSD.out.1 HSD.out.2, ← HFL.out, ← hfl2, hal]
              simp only [List.length_append, List.length_cons, List.length_nil] at hlen
              exact Tr.flat_two hx' (by rw [List.length_take]; omega) (by rw [List.length_drop]; omega)
            · show hxs.length ≤ h'.xs.length
              rw [hx']; simp only [List.length_append, List.length_cons, List.length_take, List.length_drop]; omega
            · show h'.xs.length ≤ hxs.length + 1
              rw [hx']; simp only [List.length_append, List.length_cons, List.length_take, List.length_drop]; omega
          have HBW : Hid (Bk w3 (q5 + 1) 38 #[.bool old.has, .slice old.va old.vn old.vc, .int .i64 old.home, .int .u64 (old.count : Int)]) := (HBQ.out.fr HP.out.2.2.2.2.2.2.2.2.2.2.2.2.2 fun h => by
            rcases h with h | h
            · have := HOK.out.lies.1.lt h; have := HGL.out.2.2; omega
            · exact Tr.not_own HOK2.out.lies HBQ.out (by decide) (by decide) (by decide) (k'.own_hd h))
          have y0 : w3.cell? ⟨q5 + 1, 0, none⟩ = some (.bool old.has) := HBW.out.cell 0
          have y1 : w3.cell? ⟨q5 + 1, 1, none⟩ = some (.slice old.va old.vn old.vc) := HBW.out.cell 1
          have y2 : w3.cell? ⟨q5 + 1, 2, none⟩ = some (.int .i64 old.home) := HBW.out.cell 2
          have y3 : w3.cell? ⟨q5 + 1, 3, none⟩ = some (.int .u64 (old.count : Int)) := HBW.out.cell 3
          have yf0 := HBW.out.free 0
          have yf1 := HBW.out.free 1
          have yf2 := HBW.out.free 2
          have yf3 := HBW.out.free 3
          obtain ⟨W5, hW5⟩ : ∃ W5, W5 = ((((w3).setCell ⟨q5 + 1, 0, none⟩ (.bool old.has)).setCell ⟨q5 + 1, 1, none⟩ (.slice old.va old.vn old.vc)).setCell ⟨q5 + 1, 2, none⟩ (.int .i64 old.home)).setCell ⟨q5 + 1, 3, none⟩ (.int .u64 (old.count : Int)) := ⟨_, rfl⟩
          have hx5 : Fr (fun k => k = q5 + 1) w3 W5 := by
            rw [hW5]
            exact ((((Fr.refl (fun k => k = q5 + 1) w3).setCell (p := ⟨q5 + 1, 0, none⟩) (fun _ => rfl) _).setCell (p := ⟨q5 + 1, 1, none⟩) (fun _ => rfl) _).setCell (p := ⟨q5 + 1, 2, none⟩) (fun _ => rfl) _).setCell (p := ⟨q5 + 1, 3, none⟩) (fun _ => rfl) _
          have HB5 : Hid (Bk W5 (q5 + 1) 38 #[.bool old.has, .slice old.va old.vn old.vc, .int .i64 old.home, .int .u64 (old.count : Int)]) := by
            show Bk _ _ _ _
            rw [hW5]
            refine Bk.cast (((((HBW.out).put 0 (.bool old.has)).put 1 (.slice old.va old.vn old.vc)).put 2 (.int .i64 old.home)).put 3 (.int .u64 (old.count : Int))) ?_
            simp only [List.setIfInBounds_toArray, List.set_cons_zero, List.set_cons_succ]
          have HPZ := Lib.hid (HPW.out.box (q := q5 + 1) hx5 HBW.out (by have := HGL.out.2.2; omega))
          have HW5 := Lib.hid hW5
          clear hW5 hx5 HPW
          go_wp2_with fail
          rw [← HW5.out]
          clear HW5 y0 yf0 y1 yf1 y2 yf2 y3 yf3
          have r0 : W5.cell? ⟨q5 + 1, 0, none⟩ = some (.bool old.has) := HB5.out.cell 0
          have r1 : W5.cell? ⟨q5 + 1, 1, none⟩ = some (.slice old.va old.vn old.vc) := HB5.out.cell 1
          have r2 : W5.cell? ⟨q5 + 1, 2, none⟩ = some (.int .i64 old.home) := HB5.out.cell 2
          have r3 : W5.cell? ⟨q5 + 1, 3, none⟩ = some (.int .u64 (old.count : Int)) := HB5.out.cell 3
          refine bodyPost_ret (v := .tuple #[.agg #[.bool old.has, .slice old.va old.vn old.vc, .int .i64 old.home, .int .u64 (old.count : Int)], .bool had]) (by rw [results_cell_tmp rfl]; go_simp) rfl (by first | exact HPZ.out | (have h := HPZ.out; rw [show a ++ [k] ++ b = a ++ k :: b by simp] at h; exact h))
        · have hgt : ¬ (16 : Int) < (kn : Int) := by have h1 := HN2.out; have h2 := HKID.out.2.2; have h3 : kn = k'.n := HKN.out; omega
          have HKN16 : Hid (k'.n ≤ 16) := by have h1 := HN2.out; have h2 := HKID.out.2.2; have h3 : kn = k'.n := HKN.out; show _ ≤ _; omega
          have HPW : Hid (PutRPost w (Tr.node (d := d) ⟨hg, hA, hc, some ⟨pb, 0, none⟩, he, hxs⟩ (a ++ [k] ++ b)) key v (.returned (.tuple #[.agg #[.bool old.has, .slice old.va old.vn old.vc, .int .i64 old.home, .int .u64 (old.count : Int)], .bool had])) W2) := by
            have hz1 := HF1D.out.size
            have hkl : ∀ x, k'.own x → k.own x ∨ w.heap.size ≤ x := fun x hx => by
              rcases HST.out.new x hx with h | h
              · exact .inl h
              · exact .inr (by omega)
            have hseg := Tr.ok_seg (m := [k]) (m' := [k']) (h' := ⟨hg, hA, hc, some ⟨pb, 0, none⟩, he, hxs⟩) (C := fun x => k.own x) HOK.out
              (((HF1D.out.mono fun _ _ h => h.elim).step HST.out.fr fun _ _ h => h).step HX2.out fun i hi e => by have := HGL.out.2.2; omega) (fun x hx => .inr ⟨k, List.mem_singleton.2 rfl, hx⟩) HH2.out (fun x hx => .inl hx)
              (fun q hq => by
                obtain rfl := List.mem_singleton.1 hq
                refine ⟨HOK2.out, Nat.le_trans HKID.out.2.1 HN1.out, HKN16.out, fun x hx => ?_, (HST.out.dj HD1.out.symm fun b hb => Nat.lt_of_lt_of_le (HOK.out.lies.1.lt hb) HF1D.out.size).symm⟩
                rcases hkl x hx with h | h
                · exact .inl ⟨k, List.mem_singleton.2 rfl, h⟩
                · exact .inr (.inr h))
              (List.pairwise_singleton _ _) (by have := HSH.out; simpa using this)
            refine ⟨old, had, .node ⟨hg, hA, hc, some ⟨pb, 0, none⟩, he, hxs⟩ (a ++ [k'] ++ b), rfl, ?_, hseg.1, ?_, rfl, Nat.le_refl _, Nat.le_succ _, (fun _ => rfl), hseg.2⟩
            · show Lk _ _ (Tr.node _ _).flat _ _
              rw [HFM.out]
              exact HLK.out.mid linS HSD.out.1 HSD.out.2
            · show _ = putL _ _ _ (Tr.node _ _).flat
              rw [HFM.out, putL_mid linS HSD.out.1 HSD.out.2, ← HFL.out]
              exact Tr.flat_mid (by have := HSH.out; simpa using this)
          have HBW : Hid (Bk W2 (q5 + 1) 38 #[.bool old.has, .slice old.va old.vn old.vc, .int .i64 old.home, .int .u64 (old.count : Int)]) := HBQ.out
          have y0 : W2.cell? ⟨q5 + 1, 0, none⟩ = some (.bool old.has) := HBW.out.cell 0
          have y1 : W2.cell? ⟨q5 + 1, 1, none⟩ = some (.slice old.va old.vn old.vc) := HBW.out.cell 1
          have y2 : W2.cell? ⟨q5 + 1, 2, none⟩ = some (.int .i64 old.home) := HBW.out.cell 2
          have y3 : W2.cell? ⟨q5 + 1, 3, none⟩ = some (.int .u64 (old.count : Int)) := HBW.out.cell 3
          have yf0 := HBW.out.free 0
          have yf1 := HBW.out.free 1
          have yf2 := HBW.out.free 2
          have yf3 := HBW.out.free 3
          obtain ⟨W5, hW5⟩ : ∃ W5, W5 = ((((W2).setCell ⟨q5 + 1, 0, none⟩ (.bool old.has)).setCell ⟨q5 + 1, 1, none⟩ (.slice old.va old.vn old.vc)).setCell ⟨q5 + 1, 2, none⟩ (.int .i64 old.home)).setCell ⟨q5 + 1, 3, none⟩ (.int .u64 (old.count : Int)) := ⟨_, rfl⟩
          have hx5 : Fr (fun k => k = q5 + 1) W2 W5 := by
            rw [hW5]
            exact ((((Fr.refl (fun k => k = q5 + 1) W2).setCell (p := ⟨q5 + 1, 0, none⟩) (fun _ => rfl) _).setCell (p := ⟨q5 + 1, 1, none⟩) (fun _ => rfl) _).setCell (p := ⟨q5 + 1, 2, none⟩) (fun _ => rfl) _).setCell (p := ⟨q5 + 1, 3, none⟩) (fun _ => rfl) _
          have HB5 : Hid (Bk W5 (q5 + 1) 38 #[.bool old.has, .slice old.va old.vn old.vc, .int .i64 old.home, .int .u64 (old.count : Int)]) := by
            show Bk _ _ _ _
            rw [hW5]
            refine Bk.cast (((((HBW.out).put 0 (.bool old.has)).put 1 (.slice old.va old.vn old.vc)).put 2 (.int .i64 old.home)).put 3 (.int .u64 (old.count : Int))) ?_
            simp only [List.setIfInBounds_toArray, List.set_cons_zero, List.set_cons_succ]
          have HPZ := Lib.hid (HPW.out.box (q := q5 + 1) hx5 HBW.out (by have := HGL.out.2.2; omega))
          have HW5 := Lib.hid hW5
          clear hW5 hx5 HPW
          go_wp2_with fail
          rw [← HW5.out]
          clear HW5 y0 yf0 y1 yf1 y2 yf2 y3 yf3
          have r0 : W5.cell? ⟨q5 + 1, 0, none⟩ = some (.bool old.has) := HB5.out.cell 0
          have r1 : W5.cell? ⟨q5 + 1, 1, none⟩ = some (.slice old.va old.vn old.vc) := HB5.out.cell 1
          have r2 : W5.cell? ⟨q5 + 1, 2, none⟩ = some (.int .i64 old.home) := HB5.out.cell 2
          have r3 : W5.cell? ⟨q5 + 1, 3, none⟩ = some (.int .u64 (old.count : Int)) := HB5.out.cell 3
          refine bodyPost_ret (v := .tuple #[.agg #[.bool old.has, .slice old.va old.vn old.vc, .int .i64 old.home, .int .u64 (old.count : Int)], .bool had]) (by rw [results_cell_tmp rfl]; go_simp) rfl (by first | exact HPZ.out | (have h := HPZ.out; rw [show a ++ [k] ++ b = a ++ k :: b by simp] at h; exact h))
end Go.Proofs.Ytkdcacajacndmaa
