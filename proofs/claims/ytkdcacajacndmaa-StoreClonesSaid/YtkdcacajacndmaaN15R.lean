/- take: a key is taken out of the tree at or below a node. Conditions: as the tree's shape has them. -/
import Derived.Test.YtkdcacajacndmaaN14R

namespace Go.Proofs.Ytkdcacajacndmaa
open Go.RowKit
def TakeRPost (w : World) {d : Nat} (t : Tr ItR d) (key : Bs) (e : Ending) (w' : World) : Prop :=
  ∃ (old : VaR) (had : Bool) (t' : Tr ItR d), e = .returned (.tuple #[.agg #[.bool old.has, .slice old.va old.vn old.vc, .int .i64 old.home, .int .u64 (old.count : Int)], .bool had]) ∧ Lk (VaR.mk false none 0 0 0 0 : VaR) key t.flat had old ∧ t'.ok tkR w' ∧ t'.flat = delL Op.bytesLess key t.flat ∧ t'.g = t.g ∧ t'.n ≤ t.n ∧ t.n ≤ t'.n + 1 ∧ (had = false → t'.n = t.n) ∧ Stp w w' t.own t'.own
/-- a call's own box turned behind all. -/
theorem TakeRPost.box {w W W' : World} {d : Nat} {t : Tr ItR d} {key : Bs} {e : Ending} {q : Nat} {cs : Array Value} (h : TakeRPost w t key e W) (hf : Fr (fun b => b = q) W W') (hq : Bk W q 38 cs) (hl : w.heap.size ≤ q) : TakeRPost w t key e W' := by
  obtain ⟨old, had, t', h1, h2, h3, h4, h5, h6, h7, h8, h9⟩ := h
  have hn : ¬ t'.own q := Tr.not_own h3.lies hq (by decide) (by decide) (by decide)
  exact ⟨old, had, t', h1, h2, h3.fr hf fun b hb e => hn (e ▸ hb), h4, h5, h6, h7, h8, ⟨h9.fr.step hf fun i hi e => by omega, h9.new⟩⟩
theorem TakeRPost.from_ {w W W' : World} {d : Nat} {t : Tr ItR d} {key : Bs} {e : Ending} (h : TakeRPost W t key e W') (hf : Fr NoBlk w W) : TakeRPost w t key e W' := by
  obtain ⟨old, had, t', h1, h2, h3, h4, h5, h6, h7, h8, h9⟩ := h
  exact ⟨old, had, t', h1, h2, h3, h4, h5, h6, h7, h8, ⟨(hf.mono fun _ _ e => e.elim).trans h9.fr, fun b hb => (h9.new b hb).imp id fun e => Nat.le_trans hf.size e⟩⟩
/-- what stands in memory when a child's last item has come into the node. -/
def TkRelR (w1 wx : World) {d : Nat} (h : Hd ItR) (a : List (Tr ItR d)) (k : Tr ItR d) (b : List (Tr ItR d)) : Prop :=
  ∃ (x : ItR) (k' : Tr ItR d) (P : List ItR), k.flat = P ++ [x] ∧ k'.flat = P ∧ Tr.lack tkR wx { h with xs := h.xs.set a.length x } a k' b ∧ Stp w1 wx (Tr.node h (a ++ [k] ++ b)).own (Tr.node { h with xs := h.xs.set a.length x } (a ++ [k'] ++ b)).own
/-- the item of the key's place given for the last one ahead of it. -/
theorem take_flat {K V : Type} {lt : K → K → Bool} (L : Lin lt) {d : Nat} {h : Hd (K × V)} {a b : List (Tr (K × V) d)} {k k' : Tr (K × V) d} {key : K} {u : V} {x : K × V} {P : List (K × V)} (hl : (a ++ [k] ++ b).length = h.xs.length + 1) (hu : UpI lt (Tr.node h (a ++ [k] ++ b)).flat) (hx : h.xs[a.length]? = some (key, u)) (hk : k.flat = P ++ [x]) (hk' : k'.flat = P) :
    (Tr.node { h with xs := h.xs.set a.length x } (a ++ [k'] ++ b)).flat = delL lt key (Tr.node h (a ++ [k] ++ b)).flat := by
  have hil := (List.getElem?_eq_some_iff.1 hx).1
  cases b with
  | nil => simp at hl; omega
  | cons r b =>
    have hl2 := hl
    simp only [List.length_append, List.length_cons, List.length_nil] at hl2
    have hb : (h.xs.drop (a.length + 1)).length = b.length := by rw [List.length_drop]; omega
    have e1 : a ++ [k] ++ r :: b = a ++ [k, r] ++ b := by simp
    have e2 : a ++ [k'] ++ r :: b = a ++ [k', r] ++ b := by simp
    rw [e1] at hu ⊢
    rw [e2]
    rw [Tr.flat_two (h := h) (list_mid hx) (by rw [List.length_take]; omega) hb] at hu ⊢
    rw [Tr.flat_two (h := { h with xs := h.xs.set a.length x }) (set_mid hx x) (by rw [List.length_take]; omega) hb, hk, hk']
    rw [hk] at hu
    have e3 : ∀ z : List (K × V), preW (a.map Tr.flat) (h.xs.take a.length) ++ (P ++ [x] ++ (key, u) :: r.flat) ++ z = (preW (a.map Tr.flat) (h.xs.take a.length) ++ (P ++ [x])) ++ [(key, u)] ++ (r.flat ++ z) := fun z => by simp
    rw [e3] at hu ⊢
    obtain ⟨h1, h2⟩ := up_mid L hu
    rw [delL_mid L h1 h2, delL_at L]
    simp
theorem lack_cellR {w : World} {d : Nat} {h : Hd ItR} {a b : List (Tr ItR d)} {k : Tr ItR d} (hl : Tr.lack tkR w h a k b) {n : Nat} (hn : n = h.xs.length) : w.cell? ⟨h.g, 0, none⟩ = some (.slice h.A n h.c) := by
  subst hn
  exact hl.lies.1.1.cell 0
set_option maxRecDepth 100000 in
set_option maxHeartbeats 1000000 in
theorem takeR_any (key : Bs) : ∀ {d : Nat} (w : World) (t : Tr ItR d), t.ok tkR w → UpI Op.bytesLess t.flat → t.n ≤ 16 → (d = 0 ∨ 1 ≤ t.n) → Calls Try.prog 82 #[.pointer (some ⟨t.g, 0, none⟩), .string (bstr key)] w (TakeRPost w t key) := by
  intro d
  induction d with
  | zero =>
    intro wi t o hu h16 _
    obtain ⟨q, hq⟩ : ∃ q, q = wi.heap.size := ⟨_, rfl⟩
    obtain ⟨w, hw0⟩ : ∃ w0, w0 = wi.alloc (.cells #[.bool false, .slice none 0 0, .int .i64 0, .int .u64 0] 38) := ⟨_, rfl⟩
    have hf0 : Fr NoBlk wi w := by rw [hw0]; exact (Fr.refl _ _).alloc _
    have HQ0 : Hid (Bk w q 38 #[.bool false, .slice none 0 0, .int .i64 0, .int .u64 0]) := by show Bk _ _ _ _; rw [hw0, hq]; exact Bk.new _ _ _
    have hqo : ∀ b, t.own b → b < q := fun b hb => by rw [hq]; exact o.lt hb
    replace o := o.fr hf0 fun _ _ e => e
    have HQO := Lib.hid hqo
    have HQ := Lib.hid hq
    have HW0 := Lib.hid hw0
    have HFI0 := Lib.hid hf0
    clear hf0 hq hw0 hqo
    obtain ⟨hg, hA, hc, hB, he, hxs⟩ := t
    have hu0 : UpI Op.bytesLess hxs := hu
    have h16' : hxs.length ≤ 16 := h16
    have hl : (Hd.mk hg hA hc hB he hxs).lies tkR w [] := o.lies
    obtain ⟨b1, b2, b3⟩ := hl
    have hl : (Hd.mk hg hA hc hB he hxs).lies tkR w [] := o.lies
    unfold tkR at b1 b2 b3
    dsimp only at b1 b2 b3
    have HFD := Lib.hid (findR_any w hA hc hxs key b2.rd hu0 (by omega))
    obtain ⟨n, hnn⟩ : ∃ n, n = hxs.length := ⟨_, rfl⟩
    rw [← hnn] at b1 b2 HFD
    have c0 : w.cell? ⟨hg, 0, none⟩ = some (.slice hA n hc) := b1.cell 0
    have B1 := Lib.hid b1
    have B2 := Lib.hid b2
    have HL := Lib.hid hl
    have HO := Lib.hid o
    have HU := Lib.hid hu0
    have HN : Hid (n = hxs.length ∧ n ≤ 16) := ⟨hnn, by omega⟩
    clear b1 b2 b3 hl o hu0 hu h16 h16' hnn
    show Calls _ _ #[.pointer (some ⟨hg, 0, none⟩), _] _ _
    go_enter Try.func82, Try.ntmps82
    go_upto_region 1 with fail
    rw [← HW0.out, ← HQ.out]
    clear HW0
    go_wp2_with fail
    refine HFD.out.mono ?_
    clear HFD
    rintro e w1 ⟨i, fd, rfl, hi, hfd, hf1⟩
    have HQ1 := Lib.hid (HQ0.out.fr hf1 fun e => e)
    clear HQ0
    have HI := Lib.hid hi
    have HFD := Lib.hid hfd
    have HF1 := Lib.hid hf1
    have B11 := Lib.hid (B1.out.fr hf1 fun h => h)
    have B21 := Lib.hid (B2.out.fr hf1 fun _ _ h => h)
    have HL1 := Lib.hid (HL.out.fr hf1 fun _ _ h => h)
    have c0 : w1.cell? ⟨hg, 0, none⟩ = some (.slice hA n hc) := B11.out.cell 0
    have HLF : Hid (Calls Try.prog 72 #[.pointer (some ⟨hg, 0, none⟩)] w1 fun en w' => en = .returned (.bool true) ∧ w1 = w') := leafR_any w1 hg hA n hc hB 0 he B11.out
    clear hi hfd hf1
    cases fd with
    | true =>
      obtain ⟨u, hx⟩ := HFD.out.1 rfl
      have hin : i < n := by rw [HN.out.1]; exact (List.getElem?_eq_some_iff.1 hx).1
      obtain ⟨ha, rfl⟩ := B21.out.addr (by omega)
      have d1 : w1.cell? ⟨ha, i * 5 + 1, none⟩ = some (.bool u.has) := by have := B21.out; exact (RowW.cellR this hx).2.1
      have d1x1 : w1.cell? ⟨ha, i * 5 + 2, none⟩ = some (.slice u.va u.vn u.vc) := by have := B21.out; exact (RowW.cellR this hx).2.2.1
      have d1x2 : w1.cell? ⟨ha, i * 5 + 3, none⟩ = some (.int .i64 u.home) := by have := B21.out; exact (RowW.cellR this hx).2.2.2.1
      have d1x3 : w1.cell? ⟨ha, i * 5 + 4, none⟩ = some (.int .u64 (u.count : Int)) := by have := B21.out; exact (RowW.cellR this hx).2.2.2.2
      have HX := Lib.hid hx
      have hha : ha < q := HQO.out _ (.inr (.inl ⟨_, rfl, rfl⟩))
      have hhg : hg < q := HQO.out _ (.inl rfl)
      have z0 : w1.cell? ⟨q, 0, none⟩ = some (.bool false) := HQ1.out.cell 0
      have z1 : w1.cell? ⟨q, 1, none⟩ = some (.slice none 0 0) := HQ1.out.cell 1
      have z2 : w1.cell? ⟨q, 2, none⟩ = some (.int .i64 0) := HQ1.out.cell 2
      have z3 : w1.cell? ⟨q, 3, none⟩ = some (.int .u64 0) := HQ1.out.cell 3
      have zf0 := HQ1.out.free 0
      have zf1 := HQ1.out.free 1
      have zf2 := HQ1.out.free 2
      have zf3 := HQ1.out.free 3
      obtain ⟨W2, hW2⟩ : ∃ W, W = ((((w1).setCell ⟨q, 0, none⟩ (.bool u.has)).setCell ⟨q, 1, none⟩ (.slice u.va u.vn u.vc)).setCell ⟨q, 2, none⟩ (.int .i64 u.home)).setCell ⟨q, 3, none⟩ (.int .u64 (u.count : Int)) := ⟨_, rfl⟩
      have hxW2 : Fr (fun k => k = q) w1 W2 := by
        rw [hW2]
        exact ((((Fr.refl (fun k => k = q) w1).setCell (p := ⟨q, 0, none⟩) (fun _ => rfl) _).setCell (p := ⟨q, 1, none⟩) (fun _ => rfl) _).setCell (p := ⟨q, 2, none⟩) (fun _ => rfl) _).setCell (p := ⟨q, 3, none⟩) (fun _ => rfl) _
      have HBW2 : Hid (Bk W2 q 38 #[.bool u.has, .slice u.va u.vn u.vc, .int .i64 u.home, .int .u64 (u.count : Int)]) := by
        show Bk _ _ _ _
        rw [hW2]
        refine Bk.cast (((((HQ1.out).put 0 (.bool u.has)).put 1 (.slice u.va u.vn u.vc)).put 2 (.int .i64 u.home)).put 3 (.int .u64 (u.count : Int))) ?_
        simp only [List.setIfInBounds_toArray, List.set_cons_zero, List.set_cons_succ]
      have B12 := Lib.hid (B11.out.fr hxW2 (by omega))
      have B22 := Lib.hid (B21.out.fr hxW2 fun k hk e => by injection hk with hk; have hk2 : ha = k := hk; omega)
      have HL2 := Lib.hid (HL1.out.fr hxW2 fun b hb e => by have := HQO.out b hb; omega)
      have HHQ : Hid (ha < q ∧ hg < q) := ⟨hha, hhg⟩
      have HF2 : Hid (Fr (fun b => b = q) w W2) := (HF1.out.mono fun _ _ e => e.elim).trans hxW2
      have HW2 := Lib.hid hW2
      have c02 : W2.cell? ⟨hg, 0, none⟩ = some (.slice (some ⟨ha, 0, none⟩) n hc) := B12.out.cell 0
      have hwi : IntKind.i64.wrap ((i : Int) + 1) = (i : Int) + 1 := by have := HN.out.2; exact IntWalk.i64_in _ (by omega)
      have HDEL : Hid (Calls Try.prog 90 #[.slice (some ⟨ha, 0, none⟩) n hc, .int .i64 (i : Int), .int .i64 ((i : Int) + 1)] W2 fun en w' => en = .returned (.slice (some ⟨ha, 0, none⟩) (n - 1) hc) ∧ RowW w' 0 124 5 (.slice (some ⟨ha, 0, none⟩) (n - 1) hc) (n - 1) (itsR (hxs.take i ++ hxs.drop (i + 1))) ∧ Fr (fun j => j = ha) W2 w') := by
        have h := delIR_any W2 0 ha n hc i (itsR hxs) B22.out hin (by have := HN.out.2; omega)
        rw [← itsR_take, ← itsR_drop, ← itsR_append] at h
        exact h
      have HNE : Hid (hg ≠ ha) := fun e => B22.out.ne_ B12.out (by decide) ⟨_, rfl, e.symm⟩
      clear hx HFD hha hhg hW2 hxW2
      go_wp2_with fail
      refine HLF.out.mono ?_
      rintro e w2 ⟨rfl, rfl⟩
      clear HLF
      go_upto_region 5 with fail
      rw [← HW2.out]
      clear HW2 c0 z0 zf0 z1 zf1 z2 zf2 z3 zf3
      go_wp2_with fail
      refine HDEL.out.mono ?_
      clear HDEL c02
      rintro e w2 ⟨rfl, hr2, hf2⟩
      have hset := Hd.setI tkAR HL2.out (A' := some ⟨ha, 0, none⟩) (c' := hc) (n' := n - 1) (xs' := hxs.take i ++ hxs.drop (i + 1)) (by rw [List.length_append, List.length_take, List.length_drop]; have := HN.out.1; omega) hr2 (hf2.mono fun b _ e => ⟨_, rfl, e.symm⟩) (fun b hb => .inl hb)
      have HS := Lib.hid hset
      have HB2 := Lib.hid (B12.out.fr hf2 HNE.out)
      have c2 := HB2.out.cell 0
      have f2 := HB2.out.free 0
      have HBE : Hid (Bk w2 q 38 #[.bool u.has, .slice u.va u.vn u.vc, .int .i64 u.home, .int .u64 (u.count : Int)]) := HBW2.out.fr hf2 (by have := HHQ.out; omega)
      clear hset hr2 hf2
      obtain ⟨W3, hW3⟩ : ∃ W, W = w2.setCell ⟨hg, 0, none⟩ (.slice (some ⟨ha, 0, none⟩) (n - 1) hc) := ⟨_, rfl⟩
      have HBL : Hid (Bk W3 q 38 #[.bool u.has, .slice u.va u.vn u.vc, .int .i64 u.home, .int .u64 (u.count : Int)]) := by show Bk _ _ _ _; rw [hW3]; exact HBE.out.far (p := ⟨hg, 0, none⟩) (by have := HHQ.out; show q ≠ hg; omega) _
      rw [← hW3] at HS
      have hp : TakeRPost wi (Tr.leaf ⟨hg, some ⟨ha, 0, none⟩, hc, hB, he, hxs⟩) key (.returned (.tuple #[.agg #[.bool u.has, .slice u.va u.vn u.vc, .int .i64 u.home, .int .u64 (u.count : Int)], .bool true])) W3 := by
        have hn := HN.out.1
        refine ⟨u, true, .leaf ⟨hg, some ⟨ha, 0, none⟩, hc, hB, he, hxs.take i ++ hxs.drop (i + 1)⟩, rfl, .inl ⟨rfl, List.mem_of_getElem? HX.out⟩, ⟨HS.out.1, trivial, trivial⟩, (HI.out.del linS HU.out HX.out).symm, rfl, ?_, ?_, (fun h => by cases h), ⟨?_, fun b hb => .inl hb⟩⟩
        · show (hxs.take i ++ hxs.drop (i + 1)).length ≤ hxs.length; rw [List.length_append, List.length_take, List.length_drop]; omega
        · show hxs.length ≤ (hxs.take i ++ hxs.drop (i + 1)).length + 1; rw [List.length_append, List.length_take, List.length_drop]; omega
        · exact ((HFI0.out.mono fun _ _ e => e.elim).step HF2.out fun i hi e => by have := HQ.out; omega).step HS.out.2.1 fun b _ h => h
      have HPX : Hid (∀ W, Fr (fun b => b = q) W3 W → TakeRPost wi (Tr.leaf ⟨hg, some ⟨ha, 0, none⟩, hc, hB, he, hxs⟩) key (.returned (.tuple #[.agg #[.bool u.has, .slice u.va u.vn u.vc, .int .i64 u.home, .int .u64 (u.count : Int)], .bool true])) W) := fun W hW => hp.box hW HBL.out (by have := HQ.out; omega)
      have HW3 := Lib.hid hW3
      clear hp hW3
      go_upto_region 6 with fail
      rw [← HW3.out]
      clear HW3 c2 f2
      have y0 : W3.cell? ⟨q, 0, none⟩ = some (.bool u.has) := HBL.out.cell 0
      have y1 : W3.cell? ⟨q, 1, none⟩ = some (.slice u.va u.vn u.vc) := HBL.out.cell 1
      have y2 : W3.cell? ⟨q, 2, none⟩ = some (.int .i64 u.home) := HBL.out.cell 2
      have y3 : W3.cell? ⟨q, 3, none⟩ = some (.int .u64 (u.count : Int)) := HBL.out.cell 3
      have yf0 := HBL.out.free 0
      have yf1 := HBL.out.free 1
      have yf2 := HBL.out.free 2
      have yf3 := HBL.out.free 3
      obtain ⟨W9, hW9⟩ : ∃ W, W = ((((W3).setCell ⟨q, 0, none⟩ (.bool u.has)).setCell ⟨q, 1, none⟩ (.slice u.va u.vn u.vc)).setCell ⟨q, 2, none⟩ (.int .i64 u.home)).setCell ⟨q, 3, none⟩ (.int .u64 (u.count : Int)) := ⟨_, rfl⟩
      have hxW9 : Fr (fun k => k = q) W3 W9 := by
        rw [hW9]
        exact ((((Fr.refl (fun k => k = q) W3).setCell (p := ⟨q, 0, none⟩) (fun _ => rfl) _).setCell (p := ⟨q, 1, none⟩) (fun _ => rfl) _).setCell (p := ⟨q, 2, none⟩) (fun _ => rfl) _).setCell (p := ⟨q, 3, none⟩) (fun _ => rfl) _
      have HBW9 : Hid (Bk W9 q 38 #[.bool u.has, .slice u.va u.vn u.vc, .int .i64 u.home, .int .u64 (u.count : Int)]) := by
        show Bk _ _ _ _
        rw [hW9]
        refine Bk.cast (((((HBL.out).put 0 (.bool u.has)).put 1 (.slice u.va u.vn u.vc)).put 2 (.int .i64 u.home)).put 3 (.int .u64 (u.count : Int))) ?_
        simp only [List.setIfInBounds_toArray, List.set_cons_zero, List.set_cons_succ]
      have HW9 := Lib.hid hW9
      have HPZ := Lib.hid (HPX.out W9 hxW9)
      clear hW9 hxW9
      go_wp2_with fail
      rw [← HW9.out]
      clear HW9
      have r0 : W9.cell? ⟨q, 0, none⟩ = some (.bool u.has) := HBW9.out.cell 0
      have r1 : W9.cell? ⟨q, 1, none⟩ = some (.slice u.va u.vn u.vc) := HBW9.out.cell 1
      have r2 : W9.cell? ⟨q, 2, none⟩ = some (.int .i64 u.home) := HBW9.out.cell 2
      have r3 : W9.cell? ⟨q, 3, none⟩ = some (.int .u64 (u.count : Int)) := HBW9.out.cell 3
      exact bodyPost_ret (v := .tuple #[.agg #[.bool u.has, .slice u.va u.vn u.vc, .int .i64 u.home, .int .u64 (u.count : Int)], .bool true]) (by rw [results_cell_tmp rfl]; go_simp) rfl HPZ.out
    | false =>
      have HNF : Hid (¬ ∃ v, hxs[i]? = some (key, v)) := fun h => by have := HFD.out.2 h; cases this
      clear HFD
      go_wp2_with fail
      refine HLF.out.mono ?_
      rintro e w2 ⟨rfl, rfl⟩
      clear HLF
      have HBL := HQ1
      have hno := HI.out.no linS HU.out HNF.out
      have hp : TakeRPost wi (Tr.leaf ⟨hg, hA, hc, hB, he, hxs⟩) key (.returned (.tuple #[.agg #[.bool false, .slice none 0 0, .int .i64 0, .int .u64 0], .bool false])) w1 := ⟨(VaR.mk false none 0 0 0 0 : VaR), false, .leaf ⟨hg, hA, hc, hB, he, hxs⟩, rfl, .inr ⟨rfl, rfl, hno⟩, HO.out.fr HF1.out fun _ _ e => e, (delL_no linS hno).symm, rfl, Nat.le_refl _, Nat.le_succ _, (fun _ => rfl), ⟨(HFI0.out.trans HF1.out).mono fun _ _ h => h.elim, fun b hb => .inl hb⟩⟩
      have HPX : Hid (∀ W, Fr (fun b => b = q) w1 W → TakeRPost wi (Tr.leaf ⟨hg, hA, hc, hB, he, hxs⟩) key (.returned (.tuple #[.agg #[.bool false, .slice none 0 0, .int .i64 0, .int .u64 0], .bool false])) W) := fun W hW => hp.box hW HBL.out (by have := HQ.out; omega)
      clear hp hno
      have y0 : w1.cell? ⟨q, 0, none⟩ = some (.bool false) := HBL.out.cell 0
      have y1 : w1.cell? ⟨q, 1, none⟩ = some (.slice none 0 0) := HBL.out.cell 1
      have y2 : w1.cell? ⟨q, 2, none⟩ = some (.int .i64 0) := HBL.out.cell 2
      have y3 : w1.cell? ⟨q, 3, none⟩ = some (.int .u64 0) := HBL.out.cell 3
      have yf0 := HBL.out.free 0
      have yf1 := HBL.out.free 1
      have yf2 := HBL.out.free 2
      have yf3 := HBL.out.free 3
      obtain ⟨W9, hW9⟩ : ∃ W, W = ((((w1).setCell ⟨q, 0, none⟩ (.bool false)).setCell ⟨q, 1, none⟩ (.slice none 0 0)).setCell ⟨q, 2, none⟩ (.int .i64 0)).setCell ⟨q, 3, none⟩ (.int .u64 0) := ⟨_, rfl⟩
      have hxW9 : Fr (fun k => k = q) w1 W9 := by
        rw [hW9]
        exact ((((Fr.refl (fun k => k = q) w1).setCell (p := ⟨q, 0, none⟩) (fun _ => rfl) _).setCell (p := ⟨q, 1, none⟩) (fun _ => rfl) _).setCell (p := ⟨q, 2, none⟩) (fun _ => rfl) _).setCell (p := ⟨q, 3, none⟩) (fun _ => rfl) _
      have HBW9 : Hid (Bk W9 q 38 #[.bool false, .slice none 0 0, .int .i64 0, .int .u64 0]) := by
        show Bk _ _ _ _
        rw [hW9]
        refine Bk.cast (((((HBL.out).put 0 (.bool false)).put 1 (.slice none 0 0)).put 2 (.int .i64 0)).put 3 (.int .u64 0)) ?_
        simp only [List.setIfInBounds_toArray, List.set_cons_zero, List.set_cons_succ]
      have HW9 := Lib.hid hW9
      have HPZ := Lib.hid (HPX.out W9 hxW9)
      clear hW9 hxW9
      go_wp2_with fail
      rw [← HW9.out]
      clear HW9
      have r0 : W9.cell? ⟨q, 0, none⟩ = some (.bool false) := HBW9.out.cell 0
      have r1 : W9.cell? ⟨q, 1, none⟩ = some (.slice none 0 0) := HBW9.out.cell 1
      have r2 : W9.cell? ⟨q, 2, none⟩ = some (.int .i64 0) := HBW9.out.cell 2
      have r3 : W9.cell? ⟨q, 3, none⟩ = some (.int .u64 0) := HBW9.out.cell 3
      exact bodyPost_ret (v := .tuple #[.agg #[.bool false, .slice none 0 0, .int .i64 0, .int .u64 0], .bool false]) (by rw [results_cell_tmp rfl]; go_simp) rfl HPZ.out
  | succ d ih =>
    intro wi t o hu h16 h1
    obtain ⟨q, hq⟩ : ∃ q, q = wi.heap.size := ⟨_, rfl⟩
    obtain ⟨w, hw0⟩ : ∃ w0, w0 = wi.alloc (.cells #[.bool false, .slice none 0 0, .int .i64 0, .int .u64 0] 38) := ⟨_, rfl⟩
    have hf0 : Fr NoBlk wi w := by rw [hw0]; exact (Fr.refl _ _).alloc _
    have HQ0 : Hid (Bk w q 38 #[.bool false, .slice none 0 0, .int .i64 0, .int .u64 0]) := by show Bk _ _ _ _; rw [hw0, hq]; exact Bk.new _ _ _
    have hqo : ∀ b, t.own b → b < q := fun b hb => by rw [hq]; exact o.lt hb
    replace o := o.fr hf0 fun _ _ e => e
    have HQO := Lib.hid hqo
    have HQ := Lib.hid hq
    have HW0 := Lib.hid hw0
    have HFI0 := Lib.hid hf0
    clear hf0 hq hw0 hqo
    obtain ⟨⟨hg, hA, hc, hB, he, hxs⟩, ks⟩ := t
    have h16' : hxs.length ≤ 16 := h16
    have h1' : 1 ≤ hxs.length := h1.resolve_left (by omega)
    have hu' : UpI Op.bytesLess (Tr.flat (d := d + 1) (Tr.node ⟨hg, hA, hc, hB, he, hxs⟩ ks)) := hu
    have hu0 : UpI Op.bytesLess hxs := hu'.sub (sub_weave _ _)
    have hks : ks.length = hxs.length + 1 := o.shape.1
    have hl : (Hd.mk hg hA hc hB he hxs).lies tkR w (ks.map Tr.g) := o.lies.1
    obtain ⟨b1, b2, b3⟩ := hl
    unfold tkR at b1 b2 b3
    dsimp only at b1 b2 b3
    have HFD := Lib.hid (findR_any w hA hc hxs key b2.rd hu0 (by omega))
    obtain ⟨n, hnn⟩ : ∃ n, n = hxs.length := ⟨_, rfl⟩
    obtain ⟨np, hnp⟩ : ∃ np, np = (ks.map Tr.g).length := ⟨_, rfl⟩
    rw [← hnn] at b1 b2 HFD
    rw [← hnp] at b1 b3
    have hnp1 : np = n + 1 := by rw [hnp, List.length_map, hks, hnn]
    obtain ⟨pb, rfl⟩ := b3.addr (by omega)
    obtain ⟨ha, rfl⟩ := b2.addr (by omega)
    have c0 : w.cell? ⟨hg, 0, none⟩ = some (.slice (some ⟨ha, 0, none⟩) n hc) := b1.cell 0
    have B1 := Lib.hid b1
    have B2 := Lib.hid b2
    have B3 := Lib.hid b3
    have HO := Lib.hid o
    have HU := Lib.hid hu0
    have HUF := Lib.hid hu'
    have HN : Hid (n = hxs.length ∧ n ≤ 16 ∧ 1 ≤ n ∧ ks.length = n + 1) := ⟨hnn, by omega, by omega, by omega⟩
    have HIH := Lib.hid (fun (w : World) (t : Tr ItR d) (h1 : t.ok tkR w) (h2 : UpI Op.bytesLess t.flat) (h3 : t.n ≤ 16) (h4 : d = 0 ∨ 1 ≤ t.n) => ih w t h1 h2 h3 h4)
    clear b1 b2 b3 o hu hu' hu0 h16 h16' h1 h1' hnn hnp hks ih
    show Calls _ _ #[.pointer (some ⟨hg, 0, none⟩), _] _ _
    go_enter Try.func82, Try.ntmps82
    go_upto_region 1 with fail
    rw [← HW0.out, ← HQ.out]
    clear HW0
    go_wp2_with fail
    refine HFD.out.mono ?_
    clear HFD
    rintro e w1 ⟨i, fd, rfl, hi, hfd, hf1⟩
    have HQ1 := Lib.hid (HQ0.out.fr hf1 fun e => e)
    clear HQ0
    have HI := Lib.hid hi
    have HFD := Lib.hid hfd
    have HF1 := Lib.hid hf1
    have B11 := Lib.hid (B1.out.fr hf1 fun h => h)
    have B21 := Lib.hid (B2.out.fr hf1 fun _ _ h => h)
    have B31 := Lib.hid (B3.out.fr hf1 fun _ _ h => h)
    have hle : i ≤ n := by rw [HN.out.1]; exact hi.le
    obtain ⟨k, hk⟩ : ∃ k, ks[i]? = some k := ⟨_, List.getElem?_eq_getElem (by have := HN.out; omega)⟩
    obtain ⟨a, b, hab, hal⟩ : ∃ a b, ks = a ++ [k] ++ b ∧ a.length = i := ⟨ks.take i, ks.drop (i + 1), by rw [List.append_assoc]; exact list_mid hk, by rw [List.length_take]; have := HN.out; omega⟩
    have pk : w1.cell? ⟨pb, i, none⟩ = some (.pointer (some ⟨k.g, 0, none⟩)) := B31.out.cellP (by rw [List.getElem?_map, hk]; rfl)
    subst hab
    have hkm : k ∈ a ++ [k] ++ b := by simp
    have hkid := HO.out.kid hkm
    have HO1 : Hid ((Tr.node ⟨hg, some ⟨ha, 0, none⟩, hc, some ⟨pb, 0, none⟩, he, hxs⟩ (a ++ [k] ++ b)).ok tkR w1) := HO.out.fr hf1 fun _ _ h => h
    have HKID : Hid (k.ok tkR w1 ∧ 8 ≤ k.n ∧ k.n ≤ 16) := ⟨hkid.1.fr hf1 fun _ _ h => h, hkid.2⟩
    have HUK : Hid (UpI Op.bytesLess k.flat) := HUF.out.sub (sub_kid ((a ++ [k] ++ b).map Tr.flat) hxs (List.mem_map_of_mem hkm) (by rw [List.length_map]; have := HN.out; omega))
    have HLEN : Hid ((a ++ [k] ++ b).length = hxs.length + 1) := HO.out.shape.1
    have HAL := Lib.hid hal
    have c0 : w1.cell? ⟨hg, 0, none⟩ = some (.slice (some ⟨ha, 0, none⟩) n hc) := B11.out.cell 0
    have c1 : w1.cell? ⟨hg, 1, none⟩ = some (.slice (some ⟨pb, 0, none⟩) np he) := B11.out.cell 1
    have HLF : Hid (Calls Try.prog 72 #[.pointer (some ⟨hg, 0, none⟩)] w1 fun en w' => en = .returned (.bool false) ∧ w1 = w') := by
      have h := leafR_any w1 hg _ n hc _ np he B11.out
      rw [decide_eq_false (show ¬ np = 0 by omega)] at h
      exact h
    obtain ⟨kg, hkg⟩ : ∃ g, g = k.g := ⟨_, rfl⟩
    rw [← hkg] at pk
    have HKG := Lib.hid hkg
    have hinp : i < np := by omega
    clear hi hfd hf1 hk hal hkm hkid hkg hle
    cases fd with
    | true =>
      obtain ⟨u, hx⟩ := HFD.out.1 rfl
      have hin : i < n := by rw [HN.out.1]; exact (List.getElem?_eq_some_iff.1 hx).1
      have d0 : w1.cell? ⟨ha, i * 5, none⟩ = some (.string (bstr key)) := by have := B21.out; exact (RowW.cellR this hx).1
      have d1 : w1.cell? ⟨ha, i * 5 + 1, none⟩ = some (.bool u.has) := by have := B21.out; exact (RowW.cellR this hx).2.1
      have d1x1 : w1.cell? ⟨ha, i * 5 + 2, none⟩ = some (.slice u.va u.vn u.vc) := by have := B21.out; exact (RowW.cellR this hx).2.2.1
      have d1x2 : w1.cell? ⟨ha, i * 5 + 3, none⟩ = some (.int .i64 u.home) := by have := B21.out; exact (RowW.cellR this hx).2.2.2.1
      have d1x3 : w1.cell? ⟨ha, i * 5 + 4, none⟩ = some (.int .u64 (u.count : Int)) := by have := B21.out; exact (RowW.cellR this hx).2.2.2.2
      have z0 : w1.cell? ⟨q, 0, none⟩ = some (.bool false) := HQ1.out.cell 0
      have z1 : w1.cell? ⟨q, 1, none⟩ = some (.slice none 0 0) := HQ1.out.cell 1
      have z2 : w1.cell? ⟨q, 2, none⟩ = some (.int .i64 0) := HQ1.out.cell 2
      have z3 : w1.cell? ⟨q, 3, none⟩ = some (.int .u64 0) := HQ1.out.cell 3
      have zf0 := HQ1.out.free 0
      have zf1 := HQ1.out.free 1
      have zf2 := HQ1.out.free 2
      have zf3 := HQ1.out.free 3
      obtain ⟨W2, hW2⟩ : ∃ W, W = ((((w1).setCell ⟨q, 0, none⟩ (.bool u.has)).setCell ⟨q, 1, none⟩ (.slice u.va u.vn u.vc)).setCell ⟨q, 2, none⟩ (.int .i64 u.home)).setCell ⟨q, 3, none⟩ (.int .u64 (u.count : Int)) := ⟨_, rfl⟩
      have hxW2 : Fr (fun k => k = q) w1 W2 := by
        rw [hW2]
        exact ((((Fr.refl (fun k => k = q) w1).setCell (p := ⟨q, 0, none⟩) (fun _ => rfl) _).setCell (p := ⟨q, 1, none⟩) (fun _ => rfl) _).setCell (p := ⟨q, 2, none⟩) (fun _ => rfl) _).setCell (p := ⟨q, 3, none⟩) (fun _ => rfl) _
      have HBW2 : Hid (Bk W2 q 38 #[.bool u.has, .slice u.va u.vn u.vc, .int .i64 u.home, .int .u64 (u.count : Int)]) := by
        show Bk _ _ _ _
        rw [hW2]
        refine Bk.cast (((((HQ1.out).put 0 (.bool u.has)).put 1 (.slice u.va u.vn u.vc)).put 2 (.int .i64 u.home)).put 3 (.int .u64 (u.count : Int))) ?_
        simp only [List.setIfInBounds_toArray, List.set_cons_zero, List.set_cons_succ]
      have HO2 := Lib.hid (HO1.out.fr hxW2 fun b hb e => by have := HQO.out b hb; omega)
      have HKID2 := Lib.hid (HKID.out.1.fr hxW2 fun b hb e => by have := HQO.out b (.inr ⟨k, by simp, hb⟩); omega)
      have HF2 : Hid (Fr (fun b => b = q) w W2) := (HF1.out.mono fun _ _ e => e.elim).trans hxW2
      have hqg : hg < q := HQO.out _ (.inl (.inl rfl))
      have hqp : pb < q := HQO.out _ (.inl (.inr (.inr ⟨_, rfl, rfl⟩)))
      have c02 : W2.cell? ⟨hg, 0, none⟩ = some (.slice (some ⟨ha, 0, none⟩) n hc) := (B11.out.fr hxW2 (by omega)).cell 0
      have c12 : W2.cell? ⟨hg, 1, none⟩ = some (.slice (some ⟨pb, 0, none⟩) np he) := (B11.out.fr hxW2 (by omega)).cell 1
      have pk2 : W2.cell? ⟨pb, i, none⟩ = some (.pointer (some ⟨kg, 0, none⟩)) := (hxW2.cell (p := ⟨pb, i, none⟩) (by have := HQ1.out.lt; show pb < _; omega) (by show ¬ pb = q; omega)).trans pk
      clear hqg hqp
      have c0d : W2.drew.cell? ⟨hg, 0, none⟩ = some (.slice (some ⟨ha, 0, none⟩) n hc) := c02
      have c1d : W2.drew.cell? ⟨hg, 1, none⟩ = some (.slice (some ⟨pb, 0, none⟩) np he) := c12
      have pkd : W2.drew.cell? ⟨pb, i, none⟩ = some (.pointer (some ⟨kg, 0, none⟩)) := pk2
      have HX := Lib.hid hx
      have HTL : Hid (∀ W, Fr NoBlk W2 W → Calls Try.prog 91 #[.pointer (some ⟨kg, 0, none⟩)] W fun e w' => ∃ (xk : Bs) (xv : VaR), e = .returned (.agg #[.string (bstr xk), .bool xv.has, .slice xv.va xv.vn xv.vc, .int .i64 xv.home, .int .u64 (xv.count : Int)]) ∧ Hid (∃ (k' : Tr ItR d) (P : List ItR), k.flat = P ++ [(xk, xv)] ∧ k'.flat = P ∧ Tr.lack tkR w' ⟨hg, some ⟨ha, 0, none⟩, hc, some ⟨pb, 0, none⟩, he, hxs⟩ a k' b ∧ Stp W2 w' (Tr.node ⟨hg, some ⟨ha, 0, none⟩, hc, some ⟨pb, 0, none⟩, he, hxs⟩ (a ++ [k] ++ b)).own (Tr.node ⟨hg, some ⟨ha, 0, none⟩, hc, some ⟨pb, 0, none⟩, he, hxs⟩ (a ++ [k'] ++ b)).own)) := fun W hW => by
        rw [HKG.out]
        refine (takeLastR_any W k (HKID2.out.fr hW fun _ _ h => h) (by have := HKID.out.2; omega) HKID.out.2.2).mono ?_
        rintro e w' ⟨⟨xk, xv⟩, k', P, he', hkf, hkf', hok, hkg', hn1, hn2, hst⟩
        have h8 := HKID.out.2
        obtain ⟨l1, l2⟩ := Tr.lack_of (HO2.out.fr hW fun _ _ h => h) hok hkg' (by omega) (by omega) hst
        exact ⟨xk, xv, he', k', P, hkf, hkf', l1, ⟨(hW.mono fun _ _ h => h.elim).step l2.fr fun b _ h => h, fun b hb => by
          rcases l2.new b hb with h | h
          · exact .inl h
          · exact .inr (Nat.le_trans hW.size h)⟩⟩
      have HW2 := Lib.hid hW2
      clear hx HFD HIH hW2 hxW2
      go_wp2_with fail
      refine HLF.out.mono ?_
      rintro e w2 ⟨rfl, rfl⟩
      clear HLF
      go_upto_region 9 with fail
      rw [← HW2.out]
      clear HW2 c0 c1 pk d0 d1 d1x3 d1x2 d1x1 z0 zf0 z1 zf1 z2 zf2 z3 zf3
      go_cut [50] (fun s wx => s = .pointer (some ⟨hg, 0, none⟩) ∧ Hid (TkRelR W2 wx ⟨hg, some ⟨ha, 0, none⟩, hc, some ⟨pb, 0, none⟩, he, hxs⟩ a k b))
      case first =>
        go_region_with (refine (HTL.out _ ?_).mono ?_; (first | exact (Fr.refl _ _).drew | exact Fr.refl _ _); rintro e w2 ⟨xk, xv, rfl, HP⟩; have HC : Hid (RowW w2 0 124 5 (.slice (some ⟨ha, 0, none⟩) n hc) n (itsR hxs)) := (by obtain ⟨k', P, _, _, hl, _⟩ := HP.out; have h := hl.lies.1.2.1; show RowW _ _ _ _ _ _ _; rw [HN.out.1]; exact h); have q0 : w2.cell? ⟨hg, 0, none⟩ = some (.slice (some ⟨ha, 0, none⟩) n hc) := (by obtain ⟨k', P, _, _, hl, _⟩ := HP.out; exact lack_cellR hl HN.out.1); have HX2 := Lib.hid (HX.out); have y0 : w2.cell? ⟨ha, i * 5, none⟩ = some (.string (bstr key)) := (HC.out.cellR HX2.out).1; have y1 : w2.cell? ⟨ha, i * 5 + 1, none⟩ = some (.bool u.has) := (HC.out.cellR HX2.out).2.1; have y2 : w2.cell? ⟨ha, i * 5 + 2, none⟩ = some (.slice u.va u.vn u.vc) := (HC.out.cellR HX2.out).2.2.1; have y3 : w2.cell? ⟨ha, i * 5 + 3, none⟩ = some (.int .i64 u.home) := (HC.out.cellR HX2.out).2.2.2.1; have y4 : w2.cell? ⟨ha, i * 5 + 4, none⟩ = some (.int .u64 (u.count : Int)) := (HC.out.cellR HX2.out).2.2.2.2; have s0 := HC.out.frz (i * 5); have s1 := HC.out.frz (i * 5 + 1); have s2 := HC.out.frz (i * 5 + 2); have s3 := HC.out.frz (i * 5 + 3); have s4 := HC.out.frz (i * 5 + 4))
        all_goals
          go_wp2_with fail
          go_meet
          obtain ⟨k', P, hkf, hkf', hl, hst⟩ := HP.out
          have hsx := Hd.setxR (X := ⟨hg, some ⟨ha, 0, none⟩, hc, some ⟨pb, 0, none⟩, he, hxs⟩) (z := (xk, xv)) hl.lies.1 rfl (by rw [← HAL.out] at HX; exact HX.out)
          rw [HAL.out] at hsx
          refine ⟨rfl, (xk, xv), k', P, hkf, hkf', ?_, ?_⟩
          · rw [HAL.out]
            exact hl.setx hsx.2 (fun x e => .inr (.inl ⟨_, rfl, e.symm⟩)) hsx.1 (by rw [List.length_set])
          · refine Stp.trans hst ⟨hsx.2.mono fun b _ e => .inl (.inr (.inl ⟨_, rfl, e.symm⟩)), fun b hb => .inl hb⟩
      case rest =>
        obtain ⟨w3, rfl⟩ : ∃ w3, w3 = wc := ⟨_, rfl⟩
        obtain ⟨rfl, HCR⟩ := hcut
        obtain ⟨x, k', P, hkf, hkf', hl, hst⟩ := HCR.out
        have HFI : Hid (Calls Try.prog 92 #[.pointer (some ⟨hg, 0, none⟩), .int .i64 (i : Int)] w3 (FillRPost w3 ⟨hg, some ⟨ha, 0, none⟩, hc, some ⟨pb, 0, none⟩, he, hxs.set a.length x⟩ (a ++ [k'] ++ b) (8 ≤ k'.n))) := by
          have h := fillR_any w3 ⟨hg, some ⟨ha, 0, none⟩, hc, some ⟨pb, 0, none⟩, he, hxs.set a.length x⟩ a k' b hl (by show (hxs.set _ _).length ≤ 16; rw [List.length_set]; have := HN.out; omega) (by show 1 ≤ (hxs.set _ _).length; rw [List.length_set]; have := HN.out; omega)
          rw [HAL.out] at h ⊢
          exact h
        have HST := Lib.hid hst
        have HFL := Lib.hid (take_flat linS (h := ⟨hg, some ⟨ha, 0, none⟩, hc, some ⟨pb, 0, none⟩, he, hxs⟩) HLEN.out HUF.out (by rw [HAL.out]; exact HX.out) hkf hkf')
        have HMEM : Hid ((key, u) ∈ (Tr.node ⟨hg, some ⟨ha, 0, none⟩, hc, some ⟨pb, 0, none⟩, he, hxs⟩ (a ++ [k] ++ b)).flat) := (sub_weave _ _).subset (List.mem_of_getElem? HX.out)
        have hnq : ¬ (Tr.node ⟨hg, some ⟨ha, 0, none⟩, hc, some ⟨pb, 0, none⟩, he, hxs.set a.length x⟩ (a ++ [k'] ++ b)).own q := fun h => by
          rcases hst.new q h with h | h
          · have := HQO.out q h; omega
          · have := HBW2.out.lt; omega
        have HNQ := Lib.hid hnq
        have HB3 : Hid (Bk w3 q 38 #[.bool u.has, .slice u.va u.vn u.vc, .int .i64 u.home, .int .u64 (u.count : Int)]) := HBW2.out.fr hst.fr fun h => by have := HQO.out q h; omega
        clear hkf hkf' hl hst HCR HTL c0d c1d pkd c02 c12 pk2 hnq
        go_wp2_with fail
        refine HFI.out.mono ?_
        clear HFI
        rintro e w4 ⟨⟨vv, rfl⟩, h', ks', hok4, hfl4, hg4, hn4, hn4', hst4, _⟩
        have HP4 := Lib.hid (And.intro hok4 (And.intro hfl4 (And.intro hg4 (And.intro hn4 (And.intro hn4' hst4)))))
        have HBL : Hid (Bk w4 q 38 #[.bool u.has, .slice u.va u.vn u.vc, .int .i64 u.home, .int .u64 (u.count : Int)]) := HB3.out.fr hst4.fr HNQ.out
        clear hok4 hfl4 hg4 hn4 hn4' hst4
        have hp : TakeRPost wi (Tr.node ⟨hg, some ⟨ha, 0, none⟩, hc, some ⟨pb, 0, none⟩, he, hxs⟩ (a ++ [k] ++ b)) key (.returned (.tuple #[.agg #[.bool u.has, .slice u.va u.vn u.vc, .int .i64 u.home, .int .u64 (u.count : Int)], .bool true])) w4 := by
          obtain ⟨hok4, hfl4, hg4, hn4, hn4', hst4⟩ := HP4.out
          have hls : (hxs.set a.length x).length = hxs.length := List.length_set
          replace hn4 : h'.xs.length ≤ (hxs.set a.length x).length := hn4
          replace hn4' : (hxs.set a.length x).length ≤ h'.xs.length + 1 := hn4'
          rw [hls] at hn4 hn4'
          refine ⟨u, true, .node h' ks', rfl, .inl ⟨rfl, HMEM.out⟩, hok4, by rw [hfl4]; exact HFL.out, hg4, hn4, hn4', (fun h => by cases h), ?_⟩
          exact (Stp.trans (⟨(HFI0.out.mono fun _ _ e => e.elim).step HF2.out fun i hi e => by have := HQ.out; omega, fun b hb => .inl hb⟩ : Stp wi W2 _ _) HST.out).trans hst4
        have HPX : Hid (∀ W, Fr (fun b => b = q) w4 W → TakeRPost wi (Tr.node ⟨hg, some ⟨ha, 0, none⟩, hc, some ⟨pb, 0, none⟩, he, hxs⟩ (a ++ [k] ++ b)) key (.returned (.tuple #[.agg #[.bool u.has, .slice u.va u.vn u.vc, .int .i64 u.home, .int .u64 (u.count : Int)], .bool true])) W) := fun W hW => hp.box hW HBL.out (by have := HQ.out; omega)
        clear hp
        have y0 : w4.cell? ⟨q, 0, none⟩ = some (.bool u.has) := HBL.out.cell 0
        have y1 : w4.cell? ⟨q, 1, none⟩ = some (.slice u.va u.vn u.vc) := HBL.out.cell 1
        have y2 : w4.cell? ⟨q, 2, none⟩ = some (.int .i64 u.home) := HBL.out.cell 2
        have y3 : w4.cell? ⟨q, 3, none⟩ = some (.int .u64 (u.count : Int)) := HBL.out.cell 3
        have yf0 := HBL.out.free 0
        have yf1 := HBL.out.free 1
        have yf2 := HBL.out.free 2
        have yf3 := HBL.out.free 3
        obtain ⟨W9, hW9⟩ : ∃ W, W = ((((w4).setCell ⟨q, 0, none⟩ (.bool u.has)).setCell ⟨q, 1, none⟩ (.slice u.va u.vn u.vc)).setCell ⟨q, 2, none⟩ (.int .i64 u.home)).setCell ⟨q, 3, none⟩ (.int .u64 (u.count : Int)) := ⟨_, rfl⟩
        have hxW9 : Fr (fun k => k = q) w4 W9 := by
          rw [hW9]
          exact ((((Fr.refl (fun k => k = q) w4).setCell (p := ⟨q, 0, none⟩) (fun _ => rfl) _).setCell (p := ⟨q, 1, none⟩) (fun _ => rfl) _).setCell (p := ⟨q, 2, none⟩) (fun _ => rfl) _).setCell (p := ⟨q, 3, none⟩) (fun _ => rfl) _
        have HBW9 : Hid (Bk W9 q 38 #[.bool u.has, .slice u.va u.vn u.vc, .int .i64 u.home, .int .u64 (u.count : Int)]) := by
          show Bk _ _ _ _
          rw [hW9]
          refine Bk.cast (((((HBL.out).put 0 (.bool u.has)).put 1 (.slice u.va u.vn u.vc)).put 2 (.int .i64 u.home)).put 3 (.int .u64 (u.count : Int))) ?_
          simp only [List.setIfInBounds_toArray, List.set_cons_zero, List.set_cons_succ]
        have HW9 := Lib.hid hW9
        have HPZ := Lib.hid (HPX.out W9 hxW9)
        clear hW9 hxW9
        go_wp2_with fail
        rw [← HW9.out]
        clear HW9
        have r0 : W9.cell? ⟨q, 0, none⟩ = some (.bool u.has) := HBW9.out.cell 0
        have r1 : W9.cell? ⟨q, 1, none⟩ = some (.slice u.va u.vn u.vc) := HBW9.out.cell 1
        have r2 : W9.cell? ⟨q, 2, none⟩ = some (.int .i64 u.home) := HBW9.out.cell 2
        have r3 : W9.cell? ⟨q, 3, none⟩ = some (.int .u64 (u.count : Int)) := HBW9.out.cell 3
        exact bodyPost_ret (v := .tuple #[.agg #[.bool u.has, .slice u.va u.vn u.vc, .int .i64 u.home, .int .u64 (u.count : Int)], .bool true]) (by rw [results_cell_tmp rfl]; go_simp) rfl HPZ.out
    | false =>
      have HNF : Hid (¬ ∃ v, hxs[i]? = some (key, v)) := fun h => by have := HFD.out.2 h; cases this
      have HSD : Hid ((∀ p ∈ preW (a.map Tr.flat) (hxs.take a.length), Op.bytesLess p.1 key = true) ∧ ∀ p ∈ postW (hxs.drop a.length) (b.map Tr.flat), Op.bytesLess key p.1 = true) := node_sides linS HLEN.out HUF.out (by rw [HAL.out]; exact HI.out) (by rw [HAL.out]; exact HNF.out)
      have HFM : Hid ((Tr.node ⟨hg, some ⟨ha, 0, none⟩, hc, some ⟨pb, 0, none⟩, he, hxs⟩ (a ++ [k] ++ b)).flat = preW (a.map Tr.flat) (hxs.take a.length) ++ k.flat ++ postW (hxs.drop a.length) (b.map Tr.flat)) := Tr.flat_mid HLEN.out
      have HTK : Hid (Calls Try.prog 82 #[.pointer (some ⟨kg, 0, none⟩), .string (bstr key)] w1 (TakeRPost w1 k key)) := by
        rw [HKG.out]
        exact HIH.out w1 k HKID.out.1 HUK.out HKID.out.2.2 (.inr (by have := HKID.out.2; omega))
      clear HFD HIH
      go_wp2_with fail
      refine HLF.out.mono ?_
      rintro e w2 ⟨rfl, rfl⟩
      clear HLF
      go_wp2_with fail
      refine HTK.out.mono ?_
      clear HTK c0 c1 pk
      rintro e w3 ⟨old, had, k', rfl, hlk, hok, hfl, hkg', hn1, hn2, hnh, hst⟩
      have h8 := HKID.out.2
      have HNH : Hid (had = false → 8 ≤ k'.n) := fun h => by have := hnh h; omega
      obtain ⟨l1, l2⟩ := Tr.lack_of HO1.out hok hkg' (by omega) (by omega) hst
      have hkq : ¬ k.own q := fun h => by have := HQO.out q (.inr ⟨k, by simp, h⟩); omega
      have HB3 : Hid (Bk w3 q 38 #[.bool false, .slice none 0 0, .int .i64 0, .int .u64 0]) := HQ1.out.fr hst.fr hkq
      have z0 : w3.cell? ⟨q, 0, none⟩ = some (.bool false) := HB3.out.cell 0
      have z1 : w3.cell? ⟨q, 1, none⟩ = some (.slice none 0 0) := HB3.out.cell 1
      have z2 : w3.cell? ⟨q, 2, none⟩ = some (.int .i64 0) := HB3.out.cell 2
      have z3 : w3.cell? ⟨q, 3, none⟩ = some (.int .u64 0) := HB3.out.cell 3
      have zf0 := HB3.out.free 0
      have zf1 := HB3.out.free 1
      have zf2 := HB3.out.free 2
      have zf3 := HB3.out.free 3
      obtain ⟨W4, hW4⟩ : ∃ W, W = ((((w3).setCell ⟨q, 0, none⟩ (.bool old.has)).setCell ⟨q, 1, none⟩ (.slice old.va old.vn old.vc)).setCell ⟨q, 2, none⟩ (.int .i64 old.home)).setCell ⟨q, 3, none⟩ (.int .u64 (old.count : Int)) := ⟨_, rfl⟩
      have hxW4 : Fr (fun k => k = q) w3 W4 := by
        rw [hW4]
        exact ((((Fr.refl (fun k => k = q) w3).setCell (p := ⟨q, 0, none⟩) (fun _ => rfl) _).setCell (p := ⟨q, 1, none⟩) (fun _ => rfl) _).setCell (p := ⟨q, 2, none⟩) (fun _ => rfl) _).setCell (p := ⟨q, 3, none⟩) (fun _ => rfl) _
      have HBW4 : Hid (Bk W4 q 38 #[.bool old.has, .slice old.va old.vn old.vc, .int .i64 old.home, .int .u64 (old.count : Int)]) := by
        show Bk _ _ _ _
        rw [hW4]
        refine Bk.cast (((((HB3.out).put 0 (.bool old.has)).put 1 (.slice old.va old.vn old.vc)).put 2 (.int .i64 old.home)).put 3 (.int .u64 (old.count : Int))) ?_
        simp only [List.setIfInBounds_toArray, List.set_cons_zero, List.set_cons_succ]
      have hnq : ∀ y, (Tr.node ⟨hg, some ⟨ha, 0, none⟩, hc, some ⟨pb, 0, none⟩, he, hxs⟩ (a ++ [k'] ++ b)).own y → y ≠ q := fun y hb e => by
        rcases l2.new y hb with h | h
        · have := HQO.out y h; omega
        · have := HQ1.out.lt; omega
      replace l1 := l1.fr hxW4 fun y hb e => hnq y hb e
      have HW4 := Lib.hid hW4
      have HXW4 := Lib.hid hxW4
      have HNQ : Hid (¬ (Tr.node ⟨hg, some ⟨ha, 0, none⟩, hc, some ⟨pb, 0, none⟩, he, hxs⟩ (a ++ [k'] ++ b)).own q) := fun h => hnq q h rfl
      have HFI : Hid (Calls Try.prog 92 #[.pointer (some ⟨hg, 0, none⟩), .int .i64 (i : Int)] W4 (FillRPost W4 ⟨hg, some ⟨ha, 0, none⟩, hc, some ⟨pb, 0, none⟩, he, hxs⟩ (a ++ [k'] ++ b) (8 ≤ k'.n))) := by
        have h := fillR_any W4 ⟨hg, some ⟨ha, 0, none⟩, hc, some ⟨pb, 0, none⟩, he, hxs⟩ a k' b l1 (by show hxs.length ≤ 16; have := HN.out; omega) (by show 1 ≤ hxs.length; have := HN.out; omega)
        rw [HAL.out] at h
        exact h
      have HST := Lib.hid l2
      have HLK := Lib.hid (And.intro hlk hfl)
      have HLEN' : Hid ((a ++ [k'] ++ b).length = hxs.length + 1) := l1.len
      clear hlk hok hfl hkg' hn1 hn2 hnh hst h8 l1 l2 hkq hnq hW4 hxW4
      go_wp2_with fail
      rw [← HW4.out]
      refine HFI.out.mono ?_
      clear HFI HW4 z0 zf0 z1 zf1 z2 zf2 z3 zf3
      rintro e w4 ⟨⟨vv, rfl⟩, h', ks', hok4, hfl4, hg4, hn4, hn4', hst4, hbig⟩
      have HBG := Lib.hid hbig
      clear hbig
      have HP4 := Lib.hid (And.intro hok4 (And.intro hfl4 (And.intro hg4 (And.intro hn4 (And.intro hn4' hst4)))))
      have HBL : Hid (Bk w4 q 38 #[.bool old.has, .slice old.va old.vn old.vc, .int .i64 old.home, .int .u64 (old.count : Int)]) := HBW4.out.fr hst4.fr HNQ.out
      clear hok4 hfl4 hg4 hn4 hn4' hst4
      have hp : TakeRPost wi (Tr.node ⟨hg, some ⟨ha, 0, none⟩, hc, some ⟨pb, 0, none⟩, he, hxs⟩ (a ++ [k] ++ b)) key (.returned (.tuple #[.agg #[.bool old.has, .slice old.va old.vn old.vc, .int .i64 old.home, .int .u64 (old.count : Int)], .bool had])) w4 := by
        obtain ⟨hok4, hfl4, hg4, hn4, hn4', hst4⟩ := HP4.out
        have e2 := Tr.flat_mid (h := ⟨hg, some ⟨ha, 0, none⟩, hc, some ⟨pb, 0, none⟩, he, hxs⟩) HLEN'.out
        dsimp only at e2
        refine ⟨old, had, .node h' ks', rfl, ?_, hok4, ?_, hg4, hn4, hn4', (fun hh => HBG.out (HNH.out hh)), ?_⟩
        · show Lk _ _ (Tr.node _ _).flat _ _
          rw [HFM.out]
          exact HLK.out.1.mid linS HSD.out.1 HSD.out.2
        · show (Tr.node h' ks').flat = delL _ _ (Tr.node _ _).flat
          rw [hfl4, e2, HLK.out.2, HFM.out]
          exact (delL_mid linS HSD.out.1 HSD.out.2).symm
        · exact Stp.trans (⟨((Stp.trans (⟨(HFI0.out.trans HF1.out).mono fun _ _ h => h.elim, fun b hb => .inl hb⟩ : Stp wi w1 _ _) HST.out).fr).step HXW4.out fun i hi e => by have := HQ.out; omega, fun b hb => (HST.out.new b hb).imp id fun h => by have := (HFI0.out.trans HF1.out).size; omega⟩ : Stp wi W4 _ _) hst4
      have HPX : Hid (∀ W, Fr (fun b => b = q) w4 W → TakeRPost wi (Tr.node ⟨hg, some ⟨ha, 0, none⟩, hc, some ⟨pb, 0, none⟩, he, hxs⟩ (a ++ [k] ++ b)) key (.returned (.tuple #[.agg #[.bool old.has, .slice old.va old.vn old.vc, .int .i64 old.home, .int .u64 (old.count : Int)], .bool had])) W) := fun W hW => hp.box hW HBL.out (by have := HQ.out; omega)
      clear hp
      have y0 : w4.cell? ⟨q, 0, none⟩ = some (.bool old.has) := HBL.out.cell 0
      have y1 : w4.cell? ⟨q, 1, none⟩ = some (.slice old.va old.vn old.vc) := HBL.out.cell 1
      have y2 : w4.cell? ⟨q, 2, none⟩ = some (.int .i64 old.home) := HBL.out.cell 2
      have y3 : w4.cell? ⟨q, 3, none⟩ = some (.int .u64 (old.count : Int)) := HBL.out.cell 3
      have yf0 := HBL.out.free 0
      have yf1 := HBL.out.free 1
      have yf2 := HBL.out.free 2
      have yf3 := HBL.out.free 3
      obtain ⟨W9, hW9⟩ : ∃ W, W = ((((w4).setCell ⟨q, 0, none⟩ (.bool old.has)).setCell ⟨q, 1, none⟩ (.slice old.va old.vn old.vc)).setCell ⟨q, 2, none⟩ (.int .i64 old.home)).setCell ⟨q, 3, none⟩ (.int .u64 (old.count : Int)) := ⟨_, rfl⟩
      have hxW9 : Fr (fun k => k = q) w4 W9 := by
        rw [hW9]
        exact ((((Fr.refl (fun k => k = q) w4).setCell (p := ⟨q, 0, none⟩) (fun _ => rfl) _).setCell (p := ⟨q, 1, none⟩) (fun _ => rfl) _).setCell (p := ⟨q, 2, none⟩) (fun _ => rfl) _).setCell (p := ⟨q, 3, none⟩) (fun _ => rfl) _
      have HBW9 : Hid (Bk W9 q 38 #[.bool old.has, .slice old.va old.vn old.vc, .int .i64 old.home, .int .u64 (old.count : Int)]) := by
        show Bk _ _ _ _
        rw [hW9]
        refine Bk.cast (((((HBL.out).put 0 (.bool old.has)).put 1 (.slice old.va old.vn old.vc)).put 2 (.int .i64 old.home)).put 3 (.int .u64 (old.count : Int))) ?_
        simp only [List.setIfInBounds_toArray, List.set_cons_zero, List.set_cons_succ]
      have HW9 := Lib.hid hW9
      have HPZ := Lib.hid (HPX.out W9 hxW9)
      clear hW9 hxW9
      go_wp2_with fail
      rw [← HW9.out]
      clear HW9
      have r0 : W9.cell? ⟨q, 0, none⟩ = some (.bool old.has) := HBW9.out.cell 0
      have r1 : W9.cell? ⟨q, 1, none⟩ = some (.slice old.va old.vn old.vc) := HBW9.out.cell 1
      have r2 : W9.cell? ⟨q, 2, none⟩ = some (.int .i64 old.home) := HBW9.out.cell 2
      have r3 : W9.cell? ⟨q, 3, none⟩ = some (.int .u64 (old.count : Int)) := HBW9.out.cell 3
      exact bodyPost_ret (v := .tuple #[.agg #[.bool old.has, .slice old.va old.vn old.vc, .int .i64 old.home, .int .u64 (old.count : Int)], .bool had]) (by rw [results_cell_tmp rfl]; go_simp) rfl HPZ.out
end Go.Proofs.Ytkdcacajacndmaa
