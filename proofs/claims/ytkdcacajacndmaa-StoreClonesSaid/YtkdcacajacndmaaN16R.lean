/- Delete of trees. Conditions: at most 100000 keys. -/
import Derived.Test.YtkdcacajacndmaaN15R
import Derived.Test.YtkdcacajacndmaaN4R

namespace Go.Proofs.Ytkdcacajacndmaa
open Go.RowKit
theorem delL_len {A V : Type} {lt : A → A → Bool} (L : Lin lt) {key : A} {u : V} {xs : List (A × V)} (hu : UpI lt xs) (hm : (key, u) ∈ xs) : (delL lt key xs).length + 1 = xs.length := by
  obtain ⟨P, Q, rfl⟩ := mem_split hm
  obtain ⟨h1, h2⟩ := up_mid L hu
  rw [delL_mid L h1 h2, delL_at L]
  simp only [List.length_append, List.length_nil, List.length_singleton]
  omega
def TreeDelR (w : World) (g : Nat) (O : Nat → Prop) (xs : List ItR) (key : Bs) (e : Ending) (w' : World) : Prop :=
  ∃ (old : VaR) (had : Bool) (O' : Nat → Prop), e = .returned (.tuple #[.agg #[.bool old.has, .slice old.va old.vn old.vc, .int .i64 old.home, .int .u64 (old.count : Int)], .bool had]) ∧ Lk (VaR.mk false none 0 0 0 0 : VaR) key xs had old ∧ TreeR w' g O' (delL Op.bytesLess key xs) ∧ Stp w w' O O'
theorem TreeDelR.box {w W W' : World} {g : Nat} {O : Nat → Prop} {xs : List ItR} {key : Bs} {e : Ending} {q : Nat} {cs : Array Value} (h : TreeDelR w g O xs key e W) (hf : Fr (fun b => b = q) W W') (hq : Bk W q 38 cs) (hl : w.heap.size ≤ q) : TreeDelR w g O xs key e W' := by
  obtain ⟨old, had, O', he, hlk, ht, hs⟩ := h
  have hn : ∀ b, O' b → b ≠ q := fun b hb e => by
    obtain ⟨d, t, h1, h2, _, _, _, _, _, h8⟩ := ht
    subst e
    rcases (h8 b).1 hb with e | e
    · subst e
      exact Bk.apart h1 hq (by decide) rfl
    · exact Tr.not_own h2.lies hq (by decide) (by decide) (by decide) e
  exact ⟨old, had, O', he, hlk, ht.fr hf hn, ⟨hs.fr.step hf fun i hi e => by omega, hs.new⟩⟩
set_option maxRecDepth 100000 in
set_option maxHeartbeats 1000000 in
theorem treeDelR_any (w : World) (g : Nat) (O : Nat → Prop) (xs : List ItR) (h : TreeR w g O xs) (hlen : xs.length ≤ 100000) (key : Bs) :
    Calls Try.prog 70 #[.pointer (some ⟨g, 0, none⟩), .string (bstr key)] w (TreeDelR w g O xs key) := by
  obtain ⟨d, t, h1, ho, rfl, hu, hn, hd, hg, hO⟩ := h
  obtain ⟨q, hq⟩ : ∃ q, q = w.heap.size := ⟨_, rfl⟩
  obtain ⟨w0, hw0⟩ : ∃ w0, w0 = w.alloc (.cells #[.bool false, .slice none 0 0, .int .i64 0, .int .u64 0] 38) := ⟨_, rfl⟩
  have hf0 : Fr NoBlk w w0 := by rw [hw0]; exact (Fr.refl _ _).alloc _
  have HQ0 : Hid (Bk w0 q 38 #[.bool false, .slice none 0 0, .int .i64 0, .int .u64 0]) := by show Bk _ _ _ _; rw [hw0, hq]; exact Bk.new _ _ _
  have HQO : Hid ((∀ b, t.own b → b < q) ∧ g < q) := ⟨fun b hb => by rw [hq]; exact ho.lt hb, by rw [hq]; exact h1.lt⟩
  have c0 : w0.cell? ⟨g, 0, none⟩ = some (.pointer (some ⟨t.g, 0, none⟩)) := (h1.fr hf0 fun e => e).cell 0
  have HP := Lib.hid (takeR_any key w0 t (ho.fr hf0 fun _ _ e => e) hu hn hd)
  have HQ := Lib.hid hq
  have HW0 := Lib.hid hw0
  have HF0 := Lib.hid hf0
  clear hf0 hq hw0
  have H1 := Lib.hid h1
  have HO := Lib.hid ho
  have HU := Lib.hid hu
  have HN := Lib.hid hn
  have HDD := Lib.hid hd
  have HG := Lib.hid hg
  have HOO := Lib.hid hO
  have HLEN := Lib.hid hlen
  clear h1 ho hu hn hd hg hO hlen
  obtain ⟨tg, htg⟩ : ∃ tg, tg = t.g := ⟨_, rfl⟩
  rw [← htg] at c0 HP
  have HTG := Lib.hid htg
  clear htg
  go_enter Try.func70, Try.ntmps70
  go_upto_region 1 with fail
  rw [← HW0.out, ← HQ.out]
  clear HW0
  go_wp2_with fail
  refine HP.out.mono ?_
  clear HP c0
  rintro e v1 ⟨old, had, t', rfl, hlk, hok, hfl, hgg, hn1, hn2, hnh, hst0⟩
  have HBV : Hid (Bk v1 q 38 #[.bool false, .slice none 0 0, .int .i64 0, .int .u64 0]) := HQ0.out.fr hst0.fr fun h => by have := HQO.out.1 q h; omega
  have z0 : v1.cell? ⟨q, 0, none⟩ = some (.bool false) := HBV.out.cell 0
  have z1 : v1.cell? ⟨q, 1, none⟩ = some (.slice none 0 0) := HBV.out.cell 1
  have z2 : v1.cell? ⟨q, 2, none⟩ = some (.int .i64 0) := HBV.out.cell 2
  have z3 : v1.cell? ⟨q, 3, none⟩ = some (.int .u64 0) := HBV.out.cell 3
  have zf0 := HBV.out.free 0
  have zf1 := HBV.out.free 1
  have zf2 := HBV.out.free 2
  have zf3 := HBV.out.free 3
  obtain ⟨w1, hw1⟩ : ∃ W, W = ((((v1).setCell ⟨q, 0, none⟩ (.bool old.has)).setCell ⟨q, 1, none⟩ (.slice old.va old.vn old.vc)).setCell ⟨q, 2, none⟩ (.int .i64 old.home)).setCell ⟨q, 3, none⟩ (.int .u64 (old.count : Int)) := ⟨_, rfl⟩
  have hxw1 : Fr (fun k => k = q) v1 w1 := by
    rw [hw1]
    exact ((((Fr.refl (fun k => k = q) v1).setCell (p := ⟨q, 0, none⟩) (fun _ => rfl) _).setCell (p := ⟨q, 1, none⟩) (fun _ => rfl) _).setCell (p := ⟨q, 2, none⟩) (fun _ => rfl) _).setCell (p := ⟨q, 3, none⟩) (fun _ => rfl) _
  have HBw1 : Hid (Bk w1 q 38 #[.bool old.has, .slice old.va old.vn old.vc, .int .i64 old.home, .int .u64 (old.count : Int)]) := by
    show Bk _ _ _ _
    rw [hw1]
    refine Bk.cast (((((HBV.out).put 0 (.bool old.has)).put 1 (.slice old.va old.vn old.vc)).put 2 (.int .i64 old.home)).put 3 (.int .u64 (old.count : Int))) ?_
    simp only [List.setIfInBounds_toArray, List.set_cons_zero, List.set_cons_succ]
  have hnq : ∀ b, t'.own b → b ≠ q := fun b hb e => by
    rcases hst0.new b hb with h | h
    · have := HQO.out.1 b h; omega
    · have := HQ0.out.lt; omega
  replace hok := hok.fr hxw1 hnq
  have hst : Stp w w1 t.own t'.own := ⟨((HF0.out.mono fun _ _ e => e.elim).trans hst0.fr).step hxw1 fun i hi e => by have := HQ.out; omega, fun b hb => (hst0.new b hb).imp id fun h => Nat.le_trans HF0.out.size h⟩
  have HW1 := Lib.hid hw1
  clear hxw1 hnq hst0 hw1 HQ0
  go_upto_region 2 with fail
  rw [← HW1.out]
  clear HW1 z0 zf0 z1 zf1 z2 zf2 z3 zf3
  have HB1 : Hid (Bk w1 g 104 #[.pointer (some ⟨tg, 0, none⟩), .int .i64 t.flat.length]) := by
    show Bk _ _ _ _
    rw [HTG.out]
    exact H1.out.fr hst.fr HG.out
  have HLK := Lib.hid hlk
  have HOK := Lib.hid hok
  have HFL := Lib.hid hfl
  have HGG : Hid (t'.g = tg) := hgg.trans HTG.out.symm
  have HN1 := Lib.hid hn1
  have HNH := Lib.hid hnh
  have HST := Lib.hid hst
  have HUP : Hid (UpI Op.bytesLess t'.flat) := by show UpI _ _; rw [hfl]; exact HU.out.del
  have HG1 : Hid (¬ t'.own g) := fun e => by
    rcases hst.new g e with h | h
    · exact HG.out h
    · have := H1.out.lt; omega
  clear hlk hok hfl hgg hn1 hn2 hnh hst
  have HS0 : Hid (Stp w w1 O fun b => b = g ∨ t'.own b) := HST.out.mono (fun b hb => (HOO.out b).2 (.inr hb)) fun b hb => by
    rcases hb with rfl | hb
    · exact .inr (.inl ((HOO.out _).2 (.inl rfl)))
    · exact .inl hb
  cases had with
  | false =>
    have HBL := HBw1
    have hp : TreeDelR w g O t.flat key (.returned (.tuple #[.agg #[.bool old.has, .slice old.va old.vn old.vc, .int .i64 old.home, .int .u64 (old.count : Int)], .bool false])) w1 := by
      have hdl : delL Op.bytesLess key t.flat = t.flat := delL_no linS HLK.out.none_of
      have hnn : t'.n = t.n := HNH.out rfl
      refine ⟨old, false, fun b => b = g ∨ t'.own b, rfl, HLK.out, ⟨d, t', ?_, HOK.out, HFL.out, HFL.out ▸ HUP.out, by rw [hnn]; exact HN.out, by rw [hnn]; exact HDD.out, HG1.out, fun b => Iff.rfl⟩, HS0.out⟩
      rw [hdl]
      have h := HB1.out
      rw [← HGG.out] at h
      exact h
    have HPX : Hid (∀ W, Fr (fun b => b = q) w1 W → TreeDelR w g O t.flat key (.returned (.tuple #[.agg #[.bool old.has, .slice old.va old.vn old.vc, .int .i64 old.home, .int .u64 (old.count : Int)], .bool false])) W) := fun W hW => hp.box hW HBL.out (by have := HQ.out; omega)
    clear hp
    have y0 : w1.cell? ⟨q, 0, none⟩ = some (.bool old.has) := HBL.out.cell 0
    have y1 : w1.cell? ⟨q, 1, none⟩ = some (.slice old.va old.vn old.vc) := HBL.out.cell 1
    have y2 : w1.cell? ⟨q, 2, none⟩ = some (.int .i64 old.home) := HBL.out.cell 2
    have y3 : w1.cell? ⟨q, 3, none⟩ = some (.int .u64 (old.count : Int)) := HBL.out.cell 3
    have yf0 := HBL.out.free 0
    have yf1 := HBL.out.free 1
    have yf2 := HBL.out.free 2
    have yf3 := HBL.out.free 3
    obtain ⟨W9, hW9⟩ : ∃ W, W = ((((w1).setCell ⟨q, 0, none⟩ (.bool old.has)).setCell ⟨q, 1, none⟩ (.slice old.va old.vn old.vc)).setCell ⟨q, 2, none⟩ (.int .i64 old.home)).setCell ⟨q, 3, none⟩ (.int .u64 (old.count : Int)) := ⟨_, rfl⟩
    have hxW9 : Fr (fun k => k = q) w1 W9 := by
      rw [hW9]
      exact ((((Fr.refl (fun k => k = q) w1).setCell (p := ⟨q, 0, none⟩) (fun _ => rfl) _).setCell (p := ⟨q, 1, none⟩) (fun _ => rfl) _).setCell (p := ⟨q, 2, none⟩) (fun _ => rfl) _).setCell (p := ⟨q, 3, none⟩) (fun _ => rfl) _
    have HBW9 : Hid (Bk W9 q 38 #[.bool old.has, .slice old.va old.vn old.vc, .int .i64 old.home, .int .u64 (old.count : Int)]) := by
      show Bk _ _ _ _
      rw [hW9]
      refine Bk.cast (((((HBL.out).put 0 (.bool old.has)).put 1 (.slice old.va old.vn old.vc)).put 2 (.int .i64 old.home)).put 3 (.int .u64 (old.count : Int))) ?_
      simp only [List.setIfInBounds_toArray, List.set_cons_zero, List.set_cons_succ]
    have HW9 := Lib.hid hW9
    have HPZ := Lib.hid (HPX.out W9 hxW9)
    clear hW9 hxW9
    go_wp2_with fail
    rw [← HW9.out]
    clear HW9
    have r0 : W9.cell? ⟨q, 0, none⟩ = some (.bool old.has) := HBW9.out.cell 0
    have r1 : W9.cell? ⟨q, 1, none⟩ = some (.slice old.va old.vn old.vc) := HBW9.out.cell 1
    have r2 : W9.cell? ⟨q, 2, none⟩ = some (.int .i64 old.home) := HBW9.out.cell 2
    have r3 : W9.cell? ⟨q, 3, none⟩ = some (.int .u64 (old.count : Int)) := HBW9.out.cell 3
    exact bodyPost_ret (v := .tuple #[.agg #[.bool old.has, .slice old.va old.vn old.vc, .int .i64 old.home, .int .u64 (old.count : Int)], .bool false]) (by rw [results_cell_tmp rfl]; go_simp) rfl HPZ.out
  | true =>
    obtain ⟨nn, hnn⟩ : ∃ nn, nn = (delL Op.bytesLess key t.flat).length := ⟨_, rfl⟩
    have hlen : nn + 1 = t.flat.length := by rw [hnn]; exact delL_len linS HU.out HLK.out.some_of
    have HNN := Lib.hid hnn
    have HB1' : Hid (Bk w1 g 104 #[.pointer (some ⟨tg, 0, none⟩), .int .i64 ((nn : Int) + 1)]) := by
      have h := HB1.out
      rw [← hlen] at h
      exact h
    have hwr : IntKind.i64.wrap (nn : Int) = (nn : Int) := by have := HLEN.out; exact IntWalk.i64_in _ (by omega)
    clear hnn hlen HB1
    obtain ⟨W2, hW2⟩ : ∃ W2, W2 = w1.setCell ⟨g, 1, none⟩ (.int .i64 (nn : Int)) := ⟨_, rfl⟩
    have hf12 : Fr (fun b => b = g) w1 W2 := by rw [hW2]; exact (Fr.refl (fun b => b = g) w1).setCell (p := ⟨g, 1, none⟩) (fun _ => rfl) _
    have HB2 : Hid (Bk W2 g 104 #[.pointer (some ⟨tg, 0, none⟩), .int .i64 (nn : Int)]) := by show Bk _ _ _ _; rw [hW2]; exact HB1'.out.put 1 _
    have HOK2 : Hid (t'.ok tkR W2) := HOK.out.fr hf12 fun b hb e => HG1.out (e ▸ hb)
    have HF12 := Lib.hid hf12
    have HBL2 : Hid (Bk W2 q 38 #[.bool old.has, .slice old.va old.vn old.vc, .int .i64 old.home, .int .u64 (old.count : Int)]) := HBw1.out.fr hf12 (by have := HQO.out.2; omega)
    obtain ⟨kn, hkn⟩ : ∃ kn, kn = t'.hd.xs.length := ⟨_, rfl⟩
    have HKN := Lib.hid hkn
    have c1 : w1.cell? ⟨g, 1, none⟩ = some (.int .i64 ((nn : Int) + 1)) := HB1'.out.cell 1
    have f1 := HB1'.out.free 1
    have c2 : (w1.setCell ⟨g, 1, none⟩ (.int .i64 (nn : Int))).cell? ⟨g, 0, none⟩ = some (.pointer (some ⟨tg, 0, none⟩)) := by rw [← hW2]; exact HB2.out.cell 0
    have hT := (Tr.lies_hd HOK2.out.lies).1
    have c3 : (w1.setCell ⟨g, 1, none⟩ (.int .i64 (nn : Int))).cell? ⟨tg, 0, none⟩ = some (.slice t'.hd.A kn t'.hd.c) := by
      rw [← hW2, hkn, ← HGG.out]
      exact hT.cell 0
    obtain ⟨np, hnp⟩ : ∃ np, np = t'.ptrs.length := ⟨_, rfl⟩
    have HLF : Hid (Calls Try.prog 72 #[.pointer (some ⟨tg, 0, none⟩)] W2 fun en w' => en = .returned (.bool (decide (np = 0))) ∧ W2 = w') := leafR_any W2 tg t'.hd.A kn t'.hd.c t'.hd.B np t'.hd.e (by rw [hkn, hnp, ← HGG.out]; exact hT)
    have HNP := Lib.hid hnp
    clear hf12 hkn hT hnp
    have keep : (d = 0 ∨ 1 ≤ t'.n) → TreeDelR w g O t.flat key (.returned (.tuple #[.agg #[.bool old.has, .slice old.va old.vn old.vc, .int .i64 old.home, .int .u64 (old.count : Int)], .bool true])) W2 := fun hdn => by
      refine ⟨old, true, fun b => b = g ∨ t'.own b, rfl, HLK.out, ⟨d, t', ?_, HOK2.out, HFL.out, HFL.out ▸ HUP.out, Nat.le_trans HN1.out HN.out, hdn, HG1.out, fun b => Iff.rfl⟩, HS0.out.trans ⟨HF12.out.mono fun b _ e => .inl e, fun b hb => .inl hb⟩⟩
      rw [← HNN.out]
      have h := HB2.out
      rw [← HGG.out] at h
      exact h
    have HKEEP := Lib.hid keep
    clear keep
    by_cases hk0 : kn = 0
    · cases d with
      | zero =>
        obtain rfl : np = 0 := HNP.out
        have HLF0 : Hid (Calls Try.prog 72 #[.pointer (some ⟨tg, 0, none⟩)] W2 fun en w' => en = .returned (.bool true) ∧ W2 = w') := HLF.out
        subst hk0
        clear HLF
        go_wp2_with fail
        rw [← hW2]
        refine HLF0.out.mono ?_
        rintro e w3 ⟨rfl, rfl⟩
        have HBL := HBL2
        have hp := HKEEP.out (.inl (by first | trivial | rfl))
        have HPX : Hid (∀ W, Fr (fun b => b = q) W2 W → TreeDelR w g O t.flat key (.returned (.tuple #[.agg #[.bool old.has, .slice old.va old.vn old.vc, .int .i64 old.home, .int .u64 (old.count : Int)], .bool true])) W) := fun W hW => hp.box hW HBL.out (by have := HQ.out; omega)
        clear hp
        clear c1 f1 c2 c3 hW2
        have y0 : W2.cell? ⟨q, 0, none⟩ = some (.bool old.has) := HBL.out.cell 0
        have y1 : W2.cell? ⟨q, 1, none⟩ = some (.slice old.va old.vn old.vc) := HBL.out.cell 1
        have y2 : W2.cell? ⟨q, 2, none⟩ = some (.int .i64 old.home) := HBL.out.cell 2
        have y3 : W2.cell? ⟨q, 3, none⟩ = some (.int .u64 (old.count : Int)) := HBL.out.cell 3
        have yf0 := HBL.out.free 0
        have yf1 := HBL.out.free 1
        have yf2 := HBL.out.free 2
        have yf3 := HBL.out.free 3
        obtain ⟨W9, hW9⟩ : ∃ W, W = ((((W2).setCell ⟨q, 0, none⟩ (.bool old.has)).setCell ⟨q, 1, none⟩ (.slice old.va old.vn old.vc)).setCell ⟨q, 2, none⟩ (.int .i64 old.home)).setCell ⟨q, 3, none⟩ (.int .u64 (old.count : Int)) := ⟨_, rfl⟩
        have hxW9 : Fr (fun k => k = q) W2 W9 := by
          rw [hW9]
          exact ((((Fr.refl (fun k => k = q) W2).setCell (p := ⟨q, 0, none⟩) (fun _ => rfl) _).setCell (p := ⟨q, 1, none⟩) (fun _ => rfl) _).setCell (p := ⟨q, 2, none⟩) (fun _ => rfl) _).setCell (p := ⟨q, 3, none⟩) (fun _ => rfl) _
        have HBW9 : Hid (Bk W9 q 38 #[.bool old.has, .slice old.va old.vn old.vc, .int .i64 old.home, .int .u64 (old.count : Int)]) := by
          show Bk _ _ _ _
          rw [hW9]
          refine Bk.cast (((((HBL.out).put 0 (.bool old.has)).put 1 (.slice old.va old.vn old.vc)).put 2 (.int .i64 old.home)).put 3 (.int .u64 (old.count : Int))) ?_
          simp only [List.setIfInBounds_toArray, List.set_cons_zero, List.set_cons_succ]
        have HW9 := Lib.hid hW9
        have HPZ := Lib.hid (HPX.out W9 hxW9)
        clear hW9 hxW9
        go_wp2_with fail
        rw [← HW9.out]
        clear HW9
        have r0 : W9.cell? ⟨q, 0, none⟩ = some (.bool old.has) := HBW9.out.cell 0
        have r1 : W9.cell? ⟨q, 1, none⟩ = some (.slice old.va old.vn old.vc) := HBW9.out.cell 1
        have r2 : W9.cell? ⟨q, 2, none⟩ = some (.int .i64 old.home) := HBW9.out.cell 2
        have r3 : W9.cell? ⟨q, 3, none⟩ = some (.int .u64 (old.count : Int)) := HBW9.out.cell 3
        exact bodyPost_ret (v := .tuple #[.agg #[.bool old.has, .slice old.va old.vn old.vc, .int .i64 old.home, .int .u64 (old.count : Int)], .bool true]) (by rw [results_cell_tmp rfl]; go_simp) rfl HPZ.out
      | succ d =>
        obtain ⟨⟨hg, hA, hc, hB, he, hxs⟩, ks⟩ := t'
        have hx0 : hxs = [] := List.eq_nil_of_length_eq_zero (by have h : kn = hxs.length := HKN.out; omega)
        have hks : ks.length = hxs.length + 1 := HOK2.out.shape.1
        subst hx0
        obtain ⟨c, rfl⟩ : ∃ c, ks = [c] := by
          match ks, hks with
          | [c], _ => exact ⟨c, rfl⟩
        obtain rfl : np = 1 := HNP.out
        have hkid := HOK2.out.kid (List.mem_singleton.2 rfl)
        have hgt : hg = tg := HGG.out
        subst hgt
        obtain ⟨b1, b2, b3⟩ : (Hd.mk hg hA hc hB he ([] : List ItR)).lies tkR W2 [c.g] := HOK2.out.lies.1
        unfold tkR at b1 b3
        dsimp only at b1 b3
        obtain ⟨pb, rfl⟩ := b3.addr (Nat.succ_pos 0)
        have HLF0 : Hid (Calls Try.prog 72 #[.pointer (some ⟨hg, 0, none⟩)] W2 fun en w' => en = .returned (.bool false) ∧ W2 = w') := HLF.out
        have q1 : W2.cell? ⟨hg, 1, none⟩ = some (.slice (some ⟨pb, 0, none⟩) 1 he) := b1.cell 1
        have q2 : W2.cell? ⟨pb, 0, none⟩ = some (.pointer (some ⟨c.g, 0, none⟩)) := b3.cellP (ps := [c.g]) rfl
        have q0 : W2.cell? ⟨g, 0, none⟩ = some (.pointer (some ⟨hg, 0, none⟩)) := HB2.out.cell 0
        have s0 := HB2.out.free 0
        obtain ⟨W3, hW3⟩ : ∃ W3, W3 = W2.setCell ⟨g, 0, none⟩ (.pointer (some ⟨c.g, 0, none⟩)) := ⟨_, rfl⟩
        have hf23 : Fr (fun b => b = g) W2 W3 := by rw [hW3]; exact (Fr.refl (fun b => b = g) W2).setCell (p := ⟨g, 0, none⟩) (fun _ => rfl) _
        have hco : ∀ b, c.own b → (Tr.node ⟨hg, hA, hc, some ⟨pb, 0, none⟩, he, ([] : List ItR)⟩ [c]).own b := fun b hb => .inr ⟨c, List.mem_singleton.2 rfl, hb⟩
        have HC3 : Hid (c.ok tkR W3) := hkid.1.fr hf23 fun b hb e => HG1.out (e ▸ hco b hb)
        have HB3 : Hid (Bk W3 g 104 #[.pointer (some ⟨c.g, 0, none⟩), .int .i64 (nn : Int)]) := by show Bk _ _ _ _; rw [hW3]; exact HB2.out.put 0 _
        have HCK := Lib.hid (And.intro hkid.2 hco)
        have HF23 := Lib.hid hf23
        have HFC : Hid (c.flat = delL Op.bytesLess key t.flat) := by
          have h : weave [c.flat] ([] : List ItR) = delL Op.bytesLess key t.flat := HFL.out
          show _ = _
          rw [← h]
          simp [weave]
        subst hk0
        clear HLF b1 b2 b3 hkid hks hf23 hco HKEEP
        go_wp2_with fail
        rw [← hW2]
        refine HLF0.out.mono ?_
        rintro e w3 ⟨rfl, rfl⟩
        clear hW2 HLF0
        have HBL : Hid (Bk W3 q 38 #[.bool old.has, .slice old.va old.vn old.vc, .int .i64 old.home, .int .u64 (old.count : Int)]) := HBL2.out.fr HF23.out (by have := HQO.out.2; omega)
        have hp : TreeDelR w g O t.flat key (.returned (.tuple #[.agg #[.bool old.has, .slice old.va old.vn old.vc, .int .i64 old.home, .int .u64 (old.count : Int)], .bool true])) W3 := by
          refine ⟨old, true, fun b => b = g ∨ c.own b, rfl, HLK.out, ⟨d, c, ?_, HC3.out, HFC.out, HU.out.del, HCK.out.1.2, .inr (by have := HCK.out.1.1; omega), fun h => HG1.out (HCK.out.2 g h), fun b => Iff.rfl⟩, (HS0.out.trans (o1 := fun b => b = g ∨ (Tr.node ⟨hg, hA, hc, some ⟨pb, 0, none⟩, he, ([] : List ItR)⟩ [c]).own b) ⟨HF12.out.mono fun b _ e => .inl e, fun b hb => .inl hb⟩).trans ⟨HF23.out.mono fun b _ e => .inl e, fun b hb => ?_⟩⟩
          · rw [← HNN.out]
            exact HB3.out
          · rcases hb with hb | hb
            · exact .inl (.inl hb)
            · exact .inl (.inr (HCK.out.2 b hb))
        have HPX : Hid (∀ W, Fr (fun b => b = q) W3 W → TreeDelR w g O t.flat key (.returned (.tuple #[.agg #[.bool old.has, .slice old.va old.vn old.vc, .int .i64 old.home, .int .u64 (old.count : Int)], .bool true])) W) := fun W hW => hp.box hW HBL.out (by have := HQ.out; omega)
        clear hp
        go_upto_region 7 with fail
        rw [← hW3]
        clear hW3 q0 q1 q2 s0 c1 f1 c2 c3
        have y0 : W3.cell? ⟨q, 0, none⟩ = some (.bool old.has) := HBL.out.cell 0
        have y1 : W3.cell? ⟨q, 1, none⟩ = some (.slice old.va old.vn old.vc) := HBL.out.cell 1
        have y2 : W3.cell? ⟨q, 2, none⟩ = some (.int .i64 old.home) := HBL.out.cell 2
        have y3 : W3.cell? ⟨q, 3, none⟩ = some (.int .u64 (old.count : Int)) := HBL.out.cell 3
        have yf0 := HBL.out.free 0
        have yf1 := HBL.out.free 1
        have yf2 := HBL.out.free 2
        have yf3 := HBL.out.free 3
        obtain ⟨W9, hW9⟩ : ∃ W, W = ((((W3).setCell ⟨q, 0, none⟩ (.bool old.has)).setCell ⟨q, 1, none⟩ (.slice old.va old.vn old.vc)).setCell ⟨q, 2, none⟩ (.int .i64 old.home)).setCell ⟨q, 3, none⟩ (.int .u64 (old.count : Int)) := ⟨_, rfl⟩
        have hxW9 : Fr (fun k => k = q) W3 W9 := by
          rw [hW9]
          exact ((((Fr.refl (fun k => k = q) W3).setCell (p := ⟨q, 0, none⟩) (fun _ => rfl) _).setCell (p := ⟨q, 1, none⟩) (fun _ => rfl) _).setCell (p := ⟨q, 2, none⟩) (fun _ => rfl) _).setCell (p := ⟨q, 3, none⟩) (fun _ => rfl) _
        have HBW9 : Hid (Bk W9 q 38 #[.bool old.has, .slice old.va old.vn old.vc, .int .i64 old.home, .int .u64 (old.count : Int)]) := by
          show Bk _ _ _ _
          rw [hW9]
          refine Bk.cast (((((HBL.out).put 0 (.bool old.has)).put 1 (.slice old.va old.vn old.vc)).put 2 (.int .i64 old.home)).put 3 (.int .u64 (old.count : Int))) ?_
          simp only [List.setIfInBounds_toArray, List.set_cons_zero, List.set_cons_succ]
        have HW9 := Lib.hid hW9
        have HPZ := Lib.hid (HPX.out W9 hxW9)
        clear hW9 hxW9
        go_wp2_with fail
        rw [← HW9.out]
        clear HW9
        have r0 : W9.cell? ⟨q, 0, none⟩ = some (.bool old.has) := HBW9.out.cell 0
        have r1 : W9.cell? ⟨q, 1, none⟩ = some (.slice old.va old.vn old.vc) := HBW9.out.cell 1
        have r2 : W9.cell? ⟨q, 2, none⟩ = some (.int .i64 old.home) := HBW9.out.cell 2
        have r3 : W9.cell? ⟨q, 3, none⟩ = some (.int .u64 (old.count : Int)) := HBW9.out.cell 3
        exact bodyPost_ret (v := .tuple #[.agg #[.bool old.has, .slice old.va old.vn old.vc, .int .i64 old.home, .int .u64 (old.count : Int)], .bool true]) (by rw [results_cell_tmp rfl]; go_simp) rfl HPZ.out
    · have hke : ((kn : Int) == 0) = false := beq_eq_false_iff_ne.2 (by omega)
      have hk1 : Hid (1 ≤ t'.n) := by have h : kn = t'.n := HKN.out; show 1 ≤ t'.n; omega
      clear HLF
      have HBL := HBL2
      have hp := HKEEP.out (.inr hk1.out)
      have HPX : Hid (∀ W, Fr (fun b => b = q) W2 W → TreeDelR w g O t.flat key (.returned (.tuple #[.agg #[.bool old.has, .slice old.va old.vn old.vc, .int .i64 old.home, .int .u64 (old.count : Int)], .bool true])) W) := fun W hW => hp.box hW HBL.out (by have := HQ.out; omega)
      clear hp
      go_upto_region 7 with fail
      rw [← hW2]
      clear c1 f1 c2 c3 hW2
      have y0 : W2.cell? ⟨q, 0, none⟩ = some (.bool old.has) := HBL.out.cell 0
      have y1 : W2.cell? ⟨q, 1, none⟩ = some (.slice old.va old.vn old.vc) := HBL.out.cell 1
      have y2 : W2.cell? ⟨q, 2, none⟩ = some (.int .i64 old.home) := HBL.out.cell 2
      have y3 : W2.cell? ⟨q, 3, none⟩ = some (.int .u64 (old.count : Int)) := HBL.out.cell 3
      have yf0 := HBL.out.free 0
      have yf1 := HBL.out.free 1
      have yf2 := HBL.out.free 2
      have yf3 := HBL.out.free 3
      obtain ⟨W9, hW9⟩ : ∃ W, W = ((((W2).setCell ⟨q, 0, none⟩ (.bool old.has)).setCell ⟨q, 1, none⟩ (.slice old.va old.vn old.vc)).setCell ⟨q, 2, none⟩ (.int .i64 old.home)).setCell ⟨q, 3, none⟩ (.int .u64 (old.count : Int)) := ⟨_, rfl⟩
      have hxW9 : Fr (fun k => k = q) W2 W9 := by
        rw [hW9]
        exact ((((Fr.refl (fun k => k = q) W2).setCell (p := ⟨q, 0, none⟩) (fun _ => rfl) _).setCell (p := ⟨q, 1, none⟩) (fun _ => rfl) _).setCell (p := ⟨q, 2, none⟩) (fun _ => rfl) _).setCell (p := ⟨q, 3, none⟩) (fun _ => rfl) _
      have HBW9 : Hid (Bk W9 q 38 #[.bool old.has, .slice old.va old.vn old.vc, .int .i64 old.home, .int .u64 (old.count : Int)]) := by
        show Bk _ _ _ _
        rw [hW9]
        refine Bk.cast (((((HBL.out).put 0 (.bool old.has)).put 1 (.slice old.va old.vn old.vc)).put 2 (.int .i64 old.home)).put 3 (.int .u64 (old.count : Int))) ?_
        simp only [List.setIfInBounds_toArray, List.set_cons_zero, List.set_cons_succ]
      have HW9 := Lib.hid hW9
      have HPZ := Lib.hid (HPX.out W9 hxW9)
      clear hW9 hxW9
      go_wp2_with fail
      rw [← HW9.out]
      clear HW9
      have r0 : W9.cell? ⟨q, 0, none⟩ = some (.bool old.has) := HBW9.out.cell 0
      have r1 : W9.cell? ⟨q, 1, none⟩ = some (.slice old.va old.vn old.vc) := HBW9.out.cell 1
      have r2 : W9.cell? ⟨q, 2, none⟩ = some (.int .i64 old.home) := HBW9.out.cell 2
      have r3 : W9.cell? ⟨q, 3, none⟩ = some (.int .u64 (old.count : Int)) := HBW9.out.cell 3
      exact bodyPost_ret (v := .tuple #[.agg #[.bool old.has, .slice old.va old.vn old.vc, .int .i64 old.home, .int .u64 (old.count : Int)], .bool true]) (by rw [results_cell_tmp rfl]; go_simp) rfl HPZ.out
end Go.Proofs.Ytkdcacajacndmaa
