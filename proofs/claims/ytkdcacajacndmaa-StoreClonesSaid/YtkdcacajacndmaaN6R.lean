/- Get of trees. No condition. -/
import Derived.Test.YtkdcacajacndmaaN4R

namespace Go.Proofs.Ytkdcacajacndmaa
open Go.RowKit
def GetAtR (w : World) (key : Bs) (xs : List ItR) (k : Nat) (t : Tr ItR k) (wr : World) : Prop :=
  t.ok tkR wr ∧ UpI Op.bytesLess t.flat ∧ t.n ≤ 16 ∧ (∀ had v, Lk (VaR.mk false none 0 0 0 0 : VaR) key t.flat had v → Lk (VaR.mk false none 0 0 0 0 : VaR) key xs had v) ∧ Fr NoBlk w wr
set_option maxRecDepth 100000 in
set_option maxHeartbeats 1000000 in
theorem treeGetR_any (w : World) (g : Nat) (O : Nat → Prop) (xs : List ItR) (h : TreeR w g O xs) (key : Bs) :
    Calls Try.prog 59 #[.pointer (some ⟨g, 0, none⟩), .string (bstr key)] w fun e w' => ∃ v had, e = .returned (.tuple #[.agg #[.bool v.has, .slice v.va v.vn v.vc, .int .i64 v.home, .int .u64 (v.count : Int)], .bool had]) ∧ Lk (VaR.mk false none 0 0 0 0 : VaR) key xs had v ∧ Fr NoBlk w w' := by
  obtain ⟨d, t, h1, h2, rfl, h4, h5, h6, h7, h8⟩ := h
  obtain ⟨q, hq⟩ : ∃ q, q = w.heap.size := ⟨_, rfl⟩
  obtain ⟨w0, hw0⟩ : ∃ w0, w0 = w.alloc (.cells #[.bool false, .slice none 0 0, .int .i64 0, .int .u64 0] 38) := ⟨_, rfl⟩
  have hf0 : Fr NoBlk w w0 := by rw [hw0]; exact (Fr.refl _ _).alloc _
  have HX0 : Hid (GetAtR w key t.flat d t w0) := ⟨h2.fr hf0 fun _ _ e => e, h4, h5, fun _ _ h => h, hf0⟩
  have HQ0 : Hid (Bk w0 q 38 #[.bool false, .slice none 0 0, .int .i64 0, .int .u64 0]) := by show Bk _ _ _ _; rw [hw0, hq]; exact Bk.new _ _ _
  have HQ := Lib.hid hq
  have HW0 := Lib.hid hw0
  have c0 : w0.cell? ⟨g, 0, none⟩ = some (.pointer (some ⟨t.g, 0, none⟩)) := (h1.fr hf0 fun e => e).cell 0
  clear h1 h2 h4 h5 h6 h7 h8 hf0 hq hw0
  go_enter Try.func59, Try.ntmps59
  go_upto_region 1 with fail
  rw [← HW0.out, ← HQ.out]
  clear HW0
  go_wp2_with fail
  go_loopg [6] d (fun k p wr => ∃ (t' : Tr ItR k), p = .pointer (some ⟨t'.g, 0, none⟩) ∧ Hid (GetAtR w key t.flat k t' wr) ∧ Hid (Bk wr q 38 #[.bool false, .slice none 0 0, .int .i64 0, .int .u64 0]))
  case atStart => exact ⟨t, rfl, HX0.out, HQ0.out⟩
  case round =>
    obtain ⟨t', rfl, HX, HQB⟩ := hrel
    clear c0 HX0 HQ0
    obtain ⟨ho, hu, hn, hlk, hf⟩ := HX.out
    have hl := Tr.lies_hd ho.lies
    have hux : UpI Op.bytesLess t'.hd.xs := hu.sub (Tr.sub_hd t')
    have hnx : t'.hd.xs.length ≤ 16 := hn
    have hgg : t'.g = t'.hd.g := rfl
    rw [hgg]
    generalize hh : t'.hd = h at hl hux hnx ⊢
    have HE := Lib.hid hh
    have HO := Lib.hid ho
    have HU := Lib.hid hu
    have HLK := Lib.hid hlk
    have HF := Lib.hid hf
    clear hh hgg ho hu hn hlk hf HX
    obtain ⟨hg, hA, hc, hB, he, hxs⟩ := h
    obtain ⟨b1, b2, b3⟩ := hl
    unfold tkR at b1 b2 b3
    dsimp only at b1 b2 b3 hux hnx
    have HFD := Lib.hid (findR_any wr hA hc hxs key b2.rd hux (by omega))
    have HNX := Lib.hid hnx
    obtain ⟨n, hnn⟩ : ∃ n, n = hxs.length := ⟨_, rfl⟩
    have HNN := Lib.hid hnn
    rw [← hnn] at b1 b2 HFD
    obtain ⟨np, hnp⟩ : ∃ np, np = t'.ptrs.length := ⟨_, rfl⟩
    have HNP := Lib.hid hnp
    rw [← hnp] at b1 b3
    have B1 := Lib.hid b1
    have B2 := Lib.hid b2
    have B3 := Lib.hid b3
    have HUX := Lib.hid hux
    have c0 : wr.cell? ⟨hg, 0, none⟩ = some (.slice hA n hc) := b1.cell 0
    clear b1 b2 b3 hnn hnp hux hnx
    go_wp2_with fail
    refine HFD.out.mono ?_
    clear HFD
    rintro e w1 ⟨i, fd, rfl, hi, hfd, hf1⟩
    have HI := Lib.hid hi
    have HFD := Lib.hid hfd
    have HF1 := Lib.hid hf1
    have B11 := Lib.hid (B1.out.fr hf1 fun h => h)
    have B21 := Lib.hid (B2.out.fr hf1 fun _ _ h => h)
    have B31 := Lib.hid (B3.out.fr hf1 fun _ _ h => h)
    have c0 : w1.cell? ⟨hg, 0, none⟩ = some (.slice hA n hc) := B11.out.cell 0
    have HQ1 := Lib.hid (HQB.out.fr hf1 fun e => e)
    have HO1 : Hid (t'.ok tkR w1) := HO.out.fr hf1 fun _ _ h => h
    clear hi hfd hf1
    cases fd with
    | true =>
      obtain ⟨u, hx⟩ := HFD.out.1 rfl
      have hin : i < n := by rw [HNN.out]; exact (List.getElem?_eq_some_iff.1 hx).1
      obtain ⟨a, rfl⟩ := B21.out.addr (by omega)
      have d1 : w1.cell? ⟨a, i * 5 + 1, none⟩ = some (.bool u.has) := by have := B21.out; exact (RowW.cellR this hx).2.1
      have d1x1 : w1.cell? ⟨a, i * 5 + 2, none⟩ = some (.slice u.va u.vn u.vc) := by have := B21.out; exact (RowW.cellR this hx).2.2.1
      have d1x2 : w1.cell? ⟨a, i * 5 + 3, none⟩ = some (.int .i64 u.home) := by have := B21.out; exact (RowW.cellR this hx).2.2.2.1
      have d1x3 : w1.cell? ⟨a, i * 5 + 4, none⟩ = some (.int .u64 (u.count : Int)) := by have := B21.out; exact (RowW.cellR this hx).2.2.2.2
      have HM : Hid ((key, u) ∈ t'.flat) := (Tr.sub_hd t').subset (by rw [HE.out]; exact List.mem_of_getElem? hx)
      clear hx
      have z0 : w1.cell? ⟨q, 0, none⟩ = some (.bool false) := HQ1.out.cell 0
      have z1 : w1.cell? ⟨q, 1, none⟩ = some (.slice none 0 0) := HQ1.out.cell 1
      have z2 : w1.cell? ⟨q, 2, none⟩ = some (.int .i64 0) := HQ1.out.cell 2
      have z3 : w1.cell? ⟨q, 3, none⟩ = some (.int .u64 0) := HQ1.out.cell 3
      have zf0 := HQ1.out.free 0
      have zf1 := HQ1.out.free 1
      have zf2 := HQ1.out.free 2
      have zf3 := HQ1.out.free 3
      obtain ⟨W2, hW2⟩ : ∃ W, W = ((((w1).setCell ⟨q, 0, none⟩ (.bool u.has)).setCell ⟨q, 1, none⟩ (.slice u.va u.vn u.vc)).setCell ⟨q, 2, none⟩ (.int .i64 u.home)).setCell ⟨q, 3, none⟩ (.int .u64 (u.count : Int)) := ⟨_, rfl⟩
      have hxW2 : Fr (fun k => k = q) w1 W2 := by
        rw [hW2]
        exact ((((Fr.refl (fun k => k = q) w1).setCell (p := ⟨q, 0, none⟩) (fun _ => rfl) _).setCell (p := ⟨q, 1, none⟩) (fun _ => rfl) _).setCell (p := ⟨q, 2, none⟩) (fun _ => rfl) _).setCell (p := ⟨q, 3, none⟩) (fun _ => rfl) _
      have HBW2 : Hid (Bk W2 q 38 #[.bool u.has, .slice u.va u.vn u.vc, .int .i64 u.home, .int .u64 (u.count : Int)]) := by
        show Bk _ _ _ _
        rw [hW2]
        refine Bk.cast (((((HQ1.out).put 0 (.bool u.has)).put 1 (.slice u.va u.vn u.vc)).put 2 (.int .i64 u.home)).put 3 (.int .u64 (u.count : Int))) ?_
        simp only [List.setIfInBounds_toArray, List.set_cons_zero, List.set_cons_succ]
      have HW2 := Lib.hid hW2
      have HX2 := Lib.hid hxW2
      clear hW2 hxW2
      go_wp2_with fail
      rw [← HW2.out]
      clear HW2
      have r0 : W2.cell? ⟨q, 0, none⟩ = some (.bool u.has) := HBW2.out.cell 0
      have r1 : W2.cell? ⟨q, 1, none⟩ = some (.slice u.va u.vn u.vc) := HBW2.out.cell 1
      have r2 : W2.cell? ⟨q, 2, none⟩ = some (.int .i64 u.home) := HBW2.out.cell 2
      have r3 : W2.cell? ⟨q, 3, none⟩ = some (.int .u64 (u.count : Int)) := HBW2.out.cell 3
      refine bodyPost_ret (v := .tuple #[.agg #[.bool u.has, .slice u.va u.vn u.vc, .int .i64 u.home, .int .u64 (u.count : Int)], .bool true]) (by rw [results_cell_tmp rfl]; go_simp) rfl ?_
      exact ⟨u, true, rfl, HLK.out _ _ (.inl ⟨rfl, HM.out⟩), (HF.out.trans HF1.out).step HX2.out fun i hi e => by have := HQ.out; omega⟩
    | false =>
      have HNF : Hid (¬ ∃ v, hxs[i]? = some (key, v)) := fun h => by have := HFD.out.2 h; cases this
      have HLF := Lib.hid (leafR_any w1 hg hA n hc hB np he B11.out)
      clear HFD
      cases gk with
      | zero =>
        obtain rfl : np = 0 := HNP.out
        have HLF0 : Hid (Calls Try.prog 72 #[.pointer (some ⟨hg, 0, none⟩)] w1 fun en w' => en = .returned (.bool true) ∧ w1 = w') := HLF.out
        clear HLF
        have HNO : Hid (Lk (VaR.mk false none 0 0 0 0 : VaR) key t'.flat false (VaR.mk false none 0 0 0 0 : VaR)) := by
          have hE : t' = ⟨hg, hA, hc, hB, he, hxs⟩ := HE.out
          refine .inr ⟨rfl, rfl, ?_⟩
          rw [hE]
          exact HI.out.no linS HUX.out HNF.out
        go_wp2_with fail
        refine HLF0.out.mono ?_
        rintro e w2 ⟨rfl, rfl⟩
        have z0 : w1.cell? ⟨q, 0, none⟩ = some (.bool false) := HQ1.out.cell 0
        have z1 : w1.cell? ⟨q, 1, none⟩ = some (.slice none 0 0) := HQ1.out.cell 1
        have z2 : w1.cell? ⟨q, 2, none⟩ = some (.int .i64 0) := HQ1.out.cell 2
        have z3 : w1.cell? ⟨q, 3, none⟩ = some (.int .u64 0) := HQ1.out.cell 3
        have zf0 := HQ1.out.free 0
        have zf1 := HQ1.out.free 1
        have zf2 := HQ1.out.free 2
        have zf3 := HQ1.out.free 3
        obtain ⟨W2, hW2⟩ : ∃ W, W = ((((w1).setCell ⟨q, 0, none⟩ (.bool false)).setCell ⟨q, 1, none⟩ (.slice none 0 0)).setCell ⟨q, 2, none⟩ (.int .i64 0)).setCell ⟨q, 3, none⟩ (.int .u64 0) := ⟨_, rfl⟩
        have hxW2 : Fr (fun k => k = q) w1 W2 := by
          rw [hW2]
          exact ((((Fr.refl (fun k => k = q) w1).setCell (p := ⟨q, 0, none⟩) (fun _ => rfl) _).setCell (p := ⟨q, 1, none⟩) (fun _ => rfl) _).setCell (p := ⟨q, 2, none⟩) (fun _ => rfl) _).setCell (p := ⟨q, 3, none⟩) (fun _ => rfl) _
        have HBW2 : Hid (Bk W2 q 38 #[.bool false, .slice none 0 0, .int .i64 0, .int .u64 0]) := by
          show Bk _ _ _ _
          rw [hW2]
          refine Bk.cast (((((HQ1.out).put 0 (.bool false)).put 1 (.slice none 0 0)).put 2 (.int .i64 0)).put 3 (.int .u64 0)) ?_
          simp only [List.setIfInBounds_toArray, List.set_cons_zero, List.set_cons_succ]
        have HW2 := Lib.hid hW2
        have HX2 := Lib.hid hxW2
        clear hW2 hxW2
        go_wp2_with fail
        rw [← HW2.out]
        clear HW2
        have r0 : W2.cell? ⟨q, 0, none⟩ = some (.bool false) := HBW2.out.cell 0
        have r1 : W2.cell? ⟨q, 1, none⟩ = some (.slice none 0 0) := HBW2.out.cell 1
        have r2 : W2.cell? ⟨q, 2, none⟩ = some (.int .i64 0) := HBW2.out.cell 2
        have r3 : W2.cell? ⟨q, 3, none⟩ = some (.int .u64 0) := HBW2.out.cell 3
        refine bodyPost_ret (v := .tuple #[.agg #[.bool false, .slice none 0 0, .int .i64 0, .int .u64 0], .bool false]) (by rw [results_cell_tmp rfl]; go_simp) rfl ?_
        exact ⟨(VaR.mk false none 0 0 0 0 : VaR), false, rfl, HLK.out _ _ HNO.out, (HF.out.trans HF1.out).step HX2.out fun i hi e => by have := HQ.out; omega⟩
      | succ gk =>
        obtain ⟨h0, ks⟩ := t'
        obtain rfl : h0 = ⟨hg, hA, hc, hB, he, hxs⟩ := HE.out
        have hsh : ks.length = hxs.length + 1 := HO.out.shape.1
        have hnpk : np = ks.length := HNP.out.trans (List.length_map _)
        have hle := HI.out.le
        obtain ⟨k, hk⟩ : ∃ k, ks[i]? = some k := ⟨_, List.getElem?_eq_getElem (by omega)⟩
        obtain ⟨a, b, hab, hal⟩ : ∃ a b, ks = a ++ [k] ++ b ∧ a.length = i := ⟨ks.take i, ks.drop (i + 1), by rw [List.append_assoc]; exact list_mid hk, by rw [List.length_take]; omega⟩
        subst hab
        have hnp0 : ¬ np = 0 := by omega
        have HLF0 : Hid (Calls Try.prog 72 #[.pointer (some ⟨hg, 0, none⟩)] w1 fun en w' => en = .returned (.bool false) ∧ w1 = w') := by
          have := HLF.out
          rw [decide_eq_false hnp0] at this
          exact this
        clear HLF
        have HOK : Hid ((Tr.node ⟨hg, hA, hc, hB, he, hxs⟩ (a ++ [k] ++ b)).ok tkR w1) := HO1.out
        have HUF : Hid (UpI Op.bytesLess (Tr.node ⟨hg, hA, hc, hB, he, hxs⟩ (a ++ [k] ++ b)).flat) := HU.out
        have hkm : k ∈ a ++ [k] ++ b := by simp
        have HKID : Hid (k.ok tkR w1 ∧ 8 ≤ k.n ∧ k.n ≤ 16) := HOK.out.kid hkm
        have HSD : Hid ((∀ p ∈ preW (a.map Tr.flat) (hxs.take a.length), Op.bytesLess p.1 key = true) ∧ ∀ p ∈ postW (hxs.drop a.length) (b.map Tr.flat), Op.bytesLess key p.1 = true) := node_sides linS hsh HUF.out (by rw [hal]; exact HI.out) (by rw [hal]; exact HNF.out)
        have HFM : Hid ((Tr.node ⟨hg, hA, hc, hB, he, hxs⟩ (a ++ [k] ++ b)).flat = preW (a.map Tr.flat) (hxs.take a.length) ++ k.flat ++ postW (hxs.drop a.length) (b.map Tr.flat)) := Tr.flat_mid hsh
        have B31K : Hid (RowW w1 0 98 1 (.slice hB np he) np ((a ++ [k] ++ b).map Tr.g |>.map ptr)) := B31.out
        obtain ⟨pb, rfl⟩ := B31K.out.addr (by omega)
        have hki : ((a ++ [k] ++ b).map Tr.g)[i]? = some k.g := by rw [List.getElem?_map, hk]; rfl
        have pc : w1.cell? ⟨pb, i, none⟩ = some (.pointer (some ⟨k.g, 0, none⟩)) := B31K.out.cellP hki
        have c1 : w1.cell? ⟨hg, 1, none⟩ = some (.slice (some ⟨pb, 0, none⟩) np he) := B11.out.cell 1
        have hinp : i < np := by omega
        have HLK2 : Hid (∀ had v, Lk (VaR.mk false none 0 0 0 0 : VaR) key k.flat had v → Lk (VaR.mk false none 0 0 0 0 : VaR) key t.flat had v) := fun had v hv => HLK.out had v (by
          show Lk _ _ (Tr.node _ _).flat _ _
          rw [HFM.out]
          exact hv.mid linS HSD.out.1 HSD.out.2)
        have HUK : Hid (UpI Op.bytesLess k.flat) := by
          have h1 := HUF.out
          rw [HFM.out] at h1
          exact h1.sub ((List.sublist_append_right _ _).trans (List.sublist_append_left _ _))
        clear hsh hnpk hle hk hal hnp0 hkm hki
        go_wp2_with fail
        refine HLF0.out.mono ?_
        rintro e w2 ⟨rfl, rfl⟩
        go_wp2_with fail
        go_roundg gk
        case measure => omega
        case rel => exact ⟨k, rfl, ⟨HKID.out.1, HUK.out, HKID.out.2.2, HLK2.out, HF.out.trans HF1.out⟩, HQ1.out⟩
end Go.Proofs.Ytkdcacajacndmaa
