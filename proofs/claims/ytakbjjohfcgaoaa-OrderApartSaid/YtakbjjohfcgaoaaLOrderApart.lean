/- OrderApart is true: a copy of an order lies apart from it, and unlike orders have unlike bytes. No condition. -/
import Derived.Test.YtakbjjohfcgaoaaLawp
import Derived.Test.YtakbjjohfcgaoaaSpeaks9
import Derived.Test.YtakbjjohfcgaoaaOpenO
import Derived.Test.YtakbjjohfcgaoaaOPCopy
import Derived.Test.YtakbjjohfcgaoaaDec
import Derived.Test.YtakbjjohfcgaoaaWrite
import Derived.Deep.RegionWith
namespace Go.Proofs.Ytakbjjohfcgaoaa
open Go.RowKit

structure OLoop (w7 wr : World) (N gc : Nat) (c : Od) : Prop where
  bk : Bk wr gc 33 (oda c)
  own : WOwn wr N c.t
  ownm : Fsh wr N c.ma (c.marks.length * 3) 44
  row : ∀ (j : Nat) (x : Opn), c.t.ops[j]? = some x → ∀ go, c.t.oa = some ⟨go, 0, none⟩ → ∀ (q : Nat) v, (opc x)[q]? = some v → wr.cell? ⟨go, j * 4 + q, none⟩ = some v
  fr : Fr (fun k => N ≤ k) w7 wr
theorem OLoop.start {w : World} {N gc : Nat} {c : Od} (hb : Bk w gc 33 (oda c)) (ho : WOwn w N c.t) (hm : Fsh w N c.ma (c.marks.length * 3) 44) (hi : TxIn w c.t) : OLoop w w N gc c :=
  ⟨hb, ho, hm, fun j x hx go hgo q v hq => by
    obtain ⟨b, o, e, hc⟩ := hi.ops (by have := (List.getElem?_eq_some_iff.1 hx).1; rw [opsc_len]; omega)
    rw [hgo] at e
    injection e with e
    injection e with e1 e2 _
    subst e1 e2
    have hq4 := (List.getElem?_eq_some_iff.1 hq).1
    have := hc (j * 4 + q) v ((opsc_get c.t.ops j x hx q hq4).trans hq)
    rwa [Nat.zero_add] at this, Fr.refl _ _⟩
theorem OLoop.putT {w7 wr : World} {N gc : Nat} {c : Od} (h : OLoop w7 wr N gc c) {g : Nat} {T : TypeId} {cs : Array Value} (hb : Bk wr g T cs) (hN : N ≤ g) (h1 : T ≠ 33) (h2 : T ≠ 47) (k : Nat) (u : Value) :
    OLoop w7 (wr.setCell ⟨g, k, none⟩ u) N gc c := by
  refine ⟨h.bk.far (p := ⟨g, k, none⟩) (fun e => Bk.apart h.bk hb h1.symm e) u, h.own.put _ rfl u, h.ownm.put _ rfl u, fun j x hx go hgo q v hq => ?_, h.fr.setCell (p := ⟨g, k, none⟩) (fun _ => hN) u⟩
  obtain ⟨g3, cs3, e, _, hb3, _⟩ := h.own.fo_ (by have := (List.getElem?_eq_some_iff.1 hx).1; omega)
  rw [hgo] at e
  injection e with e
  injection e with e
  subst e
  rw [World.cell?_setCell_far wr ⟨g, k, none⟩ ⟨go, j * 4 + q, none⟩ u (fun e => Bk.apart hb3 hb h2.symm e.symm)]
  exact h.row j x hx go hgo q v hq
theorem TxIn.frN' {w w' : World} {N : Nat} {t : Tx} (h : TxIn w t) (hf : Fr (fun k => N ≤ k) w w') (hN : ∀ k, k < w.heap.size → ¬ N ≤ k) : TxIn w' t :=
  have k : ∀ {A xs}, Rd w A xs → Rd w' A xs := fun hr => hr.fr' hf fun hp k hk => hN k (hr.lt hp hk)
  ⟨k h.reads, k h.writes, k h.ops, fun x hx => ⟨⟨k (h.vals x hx).1.1, (h.vals x hx).1.2⟩, (h.vals x hx).2⟩, h.texts, h.rl, h.wl, h.ol⟩
theorem OAlike.trans {a b c : Od} (h : OAlike a b) (k : OAlike b c) : OAlike a c :=
  ⟨h.node.trans k.node, h.epoch.trans k.epoch, h.seq.trans k.seq, h.tr.trans k.tr, h.kind.trans k.kind, h.to_.trans k.to_, h.reads.trans k.reads, h.writes.trans k.writes, ⟨h.ops.1.trans k.ops.1, fun j x z hx hz => by
    have hl := (List.getElem?_eq_some_iff.1 hx).1
    have hy := List.getElem?_eq_getElem (l := b.t.ops) (i := j) (by have := h.ops.1; omega)
    obtain ⟨a', b', c', d'⟩ := h.ops.2 j x _ hx hy
    obtain ⟨a'', b'', c'', d''⟩ := k.ops.2 j _ z hy hz
    exact ⟨a'.trans a'', b'.trans b'', c'.trans c'', d'.trans d''⟩⟩, h.marks.trans k.marks⟩
theorem orderB_iff {a b : Od} (ha : orderR a 3 = true) (hb : orderR b 3 = true) (hna : Bnd a) (hnb : Bnd b) (na : a.epoch < two64 ∧ a.seq < two64 ∧ ∀ m ∈ a.marks, m.count < two64) (nb : b.epoch < two64 ∧ b.seq < two64 ∧ ∀ m ∈ b.marks, m.count < two64) :
    (orderB a == orderB b) = orderSame a b := by
  rw [Bool.eq_iff_iff, beq_iff_eq, orderSame_iff]
  refine ⟨fun h => (orderB_pre ha hb hna hnb na nb (r := []) (s := []) (by rw [h])).1, orderB_alike⟩
end Go.Proofs.Ytakbjjohfcgaoaa
namespace Go.Proofs.Ytakbjjohfcgaoaa.orderApart
open Go.ChangeShapes Go.WideShapes Go.ChangeAt Go.RowKit

set_option maxRecDepth 100000 in
set_option maxHeartbeats 16000000 in
theorem walk (w : World) (a b : Od) (ha : OdIn w a) (hb : OdIn w b) (na : Bnd a) (nb : Bnd b) : Calls Try.prog 4 #[odv a, odv b] w fun e w' => e = .returned (.bool true) ∧ Fr NoBlk w w' := by
  obtain ⟨w0, hw0⟩ : ∃ w0, w0 = (w.alloc (.cells (oda a) 33)).alloc (.cells (oda b) 33) := ⟨_, rfl⟩
  have HF0 : Hid (Fr NoBlk w w0) := by
    show Fr _ _ _
    rw [hw0]
    exact ((Fr.refl _ _).alloc _).alloc _
  have HBA0 : Hid (Bk w0 w.heap.size 33 (oda a)) := by
    show Bk _ _ _ _
    rw [hw0]
    exact (Bk.new w _ _).alloc _
  have HBB0 : Hid (Bk w0 (w.heap.size + 1) 33 (oda b)) := by
    show Bk _ _ _ _
    rw [hw0]
    exact Bk.new2 w _ _ _
  have HA := Lib.hid ha
  have HB := Lib.hid hb
  have HNA := Lib.hid na
  have HNB := Lib.hid nb
  clear ha hb na nb
  unfold oda at hw0
  unfold odv oda
  go_enter Try.func4, Try.ntmps4
  go_wp2_with fail
  rw [← hw0]
  clear hw0
  refine (speaks_any _).mono ?_
  rintro e w1 ⟨rfl, hf1⟩
  have HF1 := Lib.hid (HF0.out.trans hf1)
  have HBA1 := Lib.hid (HBA0.out.fr hf1 (fun h => h))
  have HBB1 := Lib.hid (HBB0.out.fr hf1 (fun h => h))
  clear hf1 HBA0 HBB0 HF0
  obtain ⟨p0, p1, p2, p3, p4, p5, p6, p7, p8, p9⟩ := HBA1.out.ord
  have HG1 := Lib.hid (ogreat_any w1 a (HA.out.nofr HF1.out))
  unfold odv oda at HG1
  go_wp2_with fail
  refine HG1.out.mono ?_
  rintro e w2 ⟨⟨ba, rfl, hsa⟩, hf2⟩
  have HF2 := Lib.hid (HF1.out.trans hf2)
  have HBA2 := Lib.hid (HBA1.out.fr hf2 (fun h => h))
  have HBB2 := Lib.hid (HBB1.out.fr hf2 (fun h => h))
  have HSMA := Lib.hid hsa
  clear p0 p1 p2 p3 p4 p5 p6 p7 p8 p9 hf2 HBA1 HBB1 HF1 hsa HG1
  cases ba
  rotate_left
  · go_wp2_with fail
    go_ret
    exact ⟨rfl, HF2.out⟩
  have HSA := Lib.hid (HSMA.out rfl)
  clear HSMA
  obtain ⟨p0, p1, p2, p3, p4, p5, p6, p7, p8, p9⟩ := HBB2.out.ord
  have HG2 := Lib.hid (ogreat_any w2 b (HB.out.nofr HF2.out))
  unfold odv oda at HG2
  go_wp2_with fail
  refine HG2.out.mono ?_
  rintro e w3 ⟨⟨bb, rfl, hsb⟩, hf3⟩
  have HF3 := Lib.hid (HF2.out.trans hf3)
  have HBA3 := Lib.hid (HBA2.out.fr hf3 (fun h => h))
  have HBB3 := Lib.hid (HBB2.out.fr hf3 (fun h => h))
  have HSMB := Lib.hid hsb
  clear p0 p1 p2 p3 p4 p5 p6 p7 p8 p9 hf3 HBA2 HBB2 HF2 hsb HG2
  cases bb
  rotate_left
  · go_wp2_with fail
    go_ret
    exact ⟨rfl, HF3.out⟩
  have HSB := Lib.hid (HSMB.out rfl)
  clear HSMB
  obtain ⟨p0, p1, p2, p3, p4, p5, p6, p7, p8, p9⟩ := HBA3.out.ord
  go_wp2_with fail
  refine (ocopy_any w3 a (HA.out.nofr HF3.out) HSA.out).mono ?_
  rintro e w4 ⟨u, rfl, hcp⟩
  have HLU := Lib.hid hcp.like
  have HWB := Lib.hid ((Fr.refl NoBlk w4).alloc (.cells (oda u) 33))
  have HFC := Lib.hid ((HF3.out.trans hcp.fr).trans HWB.out)
  have HBAC := Lib.hid ((HBA3.out.fr hcp.fr (fun h => h)).fr HWB.out (fun h => h))
  have HBBC := Lib.hid ((HBB3.out.fr hcp.fr (fun h => h)).fr HWB.out (fun h => h))
  have HBUC := Lib.hid (Bk.new w4 33 (oda u))
  have HUI := Lib.hid (hcp.inn.nofr HWB.out)
  have HSU := Lib.hid (hcp.like.small HSA.out)
  obtain ⟨gu, hgu⟩ : ∃ gu, gu = w4.heap.size := ⟨_, rfl⟩
  have HGU := Lib.hid hgu
  clear p0 p1 p2 p3 p4 p5 p6 p7 p8 p9 hcp hgu HBA3 HBB3 HF3
  unfold odv
  unfold oda at HWB HFC HBAC HBBC HBUC HUI ⊢
  obtain ⟨d0, d1, d2, d3, d4, d5, d6, d7, d8, d9⟩ := HBUC.out.ord
  go_wp2_with fail
  rw [← HGU.out] at HBUC ⊢
  generalize hW : w4.alloc _ = w5 at *
  clear hW d0 d1 d2 d3 d4 d5 d6 d7 d8 d9 HWB HGU
  have HC2 := Lib.hid (opcopy_any w5 u HUI.out HSU.out)
  unfold odv oda at HC2
  refine HC2.out.mono ?_
  clear HC2
  rintro e w6 ⟨c, rfl, hcc⟩
  have HWB := Lib.hid ((Fr.refl NoBlk w6).alloc (.cells (oda c) 33))
  have HF57 := Lib.hid (hcc.fr.trans HWB.out)
  have HBA7 := Lib.hid (HBAC.out.fr HF57.out (fun h => h))
  have HBC7 := Lib.hid (Bk.new w6 33 (oda c))
  have HCI := Lib.hid (hcc.inn.nofr HWB.out)
  have HOW := Lib.hid (hcc.own.fr HWB.out)
  have HOM := Lib.hid (hcc.ownm.fr HWB.out)
  have HSC := Lib.hid (hcc.like.small HSU.out)
  have HLC := Lib.hid (hcc.like.trans HLU.out)
  obtain ⟨gc, hgc⟩ : ∃ gc, gc = w6.heap.size := ⟨_, rfl⟩
  obtain ⟨N, hN⟩ : ∃ N, N = w5.heap.size := ⟨_, rfl⟩
  rw [← hN] at HOW HOM
  have HGC := Lib.hid hgc
  have HNE := Lib.hid hN
  clear hcc hgc hN
  unfold odv
  unfold oda at HWB HF57 HBA7 HBC7 HCI HOW HOM ⊢
  obtain ⟨d0, d1, d2, d3, d4, d5, d6, d7, d8, d9⟩ := HBC7.out.ord
  obtain ⟨p0, p1, p2, p3, p4, p5, p6, p7, p8, p9⟩ := HBA7.out.ord
  go_wp2_with fail
  rw [← HGC.out] at HBC7 ⊢
  generalize hW : w6.alloc _ = w7 at *
  clear hW d0 d1 d2 d3 d4 d5 d6 d7 d8 d9 p0 p1 p2 p3 p4 p5 p6 p7 p8 p9 HWB HGC
  have K1 := Lib.hid (osame_any w7 c a HCI.out (HA.out.nofr (HFC.out.trans HF57.out)) HSC.out HSA.out)
  rw [(orderSame_iff c a).2 HLC.out] at K1
  unfold odv oda at K1
  refine K1.out.mono ?_
  clear K1
  rintro e w8 ⟨rfl, hf8⟩
  have HF58 := Lib.hid (HF57.out.trans hf8)
  have HL0 := Lib.hid (OLoop.start (HBC7.out.fr hf8 (fun h => h)) (HOW.out.fr hf8) (HOM.out.fr hf8) (HCI.out.txn.nofr hf8))
  have c9 : w8.cell? ⟨gc, 9, none⟩ = some (.slice c.ma c.marks.length c.mc) := HL0.out.bk.cell 9
  have hmn : c.marks.length ≤ 1000 := by have := HSC.out.m; omega
  have hon : c.t.ops.length ≤ 60 := HSC.out.t.o
  clear hf8 HF57 HBA7 HBC7 HCI HOW HOM HLC
  go_wp2_with fail
  go_loopw [33] (fun z wr => ∃ i : Nat, i ≤ c.marks.length ∧ z = .int .i64 i ∧ Hid (OLoop w8 wr N gc c)) (fun z _ => c.marks.length - (intOf z).toNat)
  case atStart => exact ⟨0, by omega, rfl, HL0⟩
  case round =>
    clear c9 HL0
    obtain ⟨i, hi, rfl, HH⟩ := hrel
    by_cases hlt : i < c.marks.length
    · obtain ⟨gm, cs, hA, hNm, hbm, hsz⟩ := HH.out.ownm (by omega)
      have c9 : wr.cell? ⟨gc, 9, none⟩ = some (.slice c.ma c.marks.length c.mc) := HH.out.bk.cell 9
      rw [hA] at c9
      have v0 : wr.cell? ⟨gm, i * 3, none⟩ = some (cs[i * 3]'(by omega)) := by rw [hbm.cell]; exact Array.getElem?_eq_getElem (by omega)
      have v1 : wr.cell? ⟨gm, i * 3 + 1, none⟩ = some (cs[i * 3 + 1]'(by omega)) := by rw [hbm.cell]; exact Array.getElem?_eq_getElem (by omega)
      have v2 : wr.cell? ⟨gm, i * 3 + 2, none⟩ = some (cs[i * 3 + 2]'(by omega)) := by rw [hbm.cell]; exact Array.getElem?_eq_getElem (by omega)
      have f0 := hbm.free (i * 3)
      have f1 := hbm.free (i * 3 + 1)
      have f2 := hbm.free (i * 3 + 2)
      have HN2 := Lib.hid (((HH.out.putT hbm hNm (by decide) (by decide) (i * 3) (.string ByteArray.empty)).putT (hbm.put _ _) hNm (by decide) (by decide) (i * 3 + 1) (.int .i64 0)).putT ((hbm.put _ _).put _ _) hNm (by decide) (by decide) (i * 3 + 2) (.int .u64 0))
      have i1' : (i : Int) < (c.marks.length : Int) := by omega
      generalize cs[i * 3]'(by omega) = vv0 at v0
      generalize cs[i * 3 + 1]'(by omega) = vv1 at v1
      generalize cs[i * 3 + 2]'(by omega) = vv2 at v2
      clear hA hbm hsz
      go_wp2_with fail
      go_roundw
      case rel => exact ⟨i + 1, by omega, by go_num, HN2⟩
      case measure => simp [intOf]; omega
    have c7 : wr.cell? ⟨gc, 7, none⟩ = some (.slice c.t.oa c.t.ops.length c.t.oc) := HH.out.bk.cell 7
    have c9 : wr.cell? ⟨gc, 9, none⟩ = some (.slice c.ma c.marks.length c.mc) := HH.out.bk.cell 9
    have HL1 := HH
    go_wp2_with fail
    go_loopw [46] (fun z wr => ∃ i : Nat, i ≤ c.t.ops.length ∧ z = .int .i64 i ∧ Hid (OLoop w8 wr N gc c)) (fun z _ => c.t.ops.length - (intOf z).toNat)
    case atStart => exact ⟨0, by omega, rfl, HL1⟩
    case round =>
      clear c7 c9 HL1 HH
      obtain ⟨i, hi, rfl, HH⟩ := hrel
      by_cases hlt : i < c.t.ops.length
      · obtain ⟨go, cs, hA, hNo, hbo, hsz⟩ := HH.out.own.fo_ (by omega)
        obtain ⟨x, hx⟩ : ∃ x, c.t.ops[i]? = some x := ⟨_, List.getElem?_eq_getElem hlt⟩
        have HA' := Lib.hid hA
        have HX := Lib.hid hx
        have c7 : wr.cell? ⟨gc, 7, none⟩ = some (.slice c.t.oa c.t.ops.length c.t.oc) := HH.out.bk.cell 7
        rw [hA] at c7
        have x2 : wr.cell? ⟨go, i * 4 + 2, none⟩ = some (.slice x.val.1 x.val.2.2.length x.val.2.1) := HH.out.row i x hx go hA 2 _ rfl
        have hxl : x.val.2.2.length ≤ 200 := (HSC.out.t.ok x (List.mem_of_getElem? hx)).2
        have i1' : (i : Int) < (c.t.ops.length : Int) := by omega
        clear hA hx hbo hsz
        go_wp2_with fail
        have HL1 : Hid (OLoop w8 wr N gc c) := HH
        go_loopw [57] (fun z wr => ∃ k : Nat, k ≤ x.val.2.2.length ∧ z = .int .i64 k ∧ Hid (OLoop w8 wr N gc c)) (fun z _ => x.val.2.2.length - (intOf z).toNat)
        case atStart => exact ⟨0, by omega, rfl, HL1⟩
        case round =>
          clear c7 x2 HH HL1
          obtain ⟨k, hk, rfl, HH⟩ := hrel
          by_cases hlk : k < x.val.2.2.length
          · obtain ⟨gv, csv, hAv, hNv, hbv, hsv⟩ := HH.out.own.fv_ x (List.mem_of_getElem? HX.out) (by omega)
            have c7 : wr.cell? ⟨gc, 7, none⟩ = some (.slice c.t.oa c.t.ops.length c.t.oc) := HH.out.bk.cell 7
            rw [HA'.out] at c7
            have x2 : wr.cell? ⟨go, i * 4 + 2, none⟩ = some (.slice x.val.1 x.val.2.2.length x.val.2.1) := HH.out.row i x HX.out go HA'.out 2 _ rfl
            rw [hAv] at x2
            have v0 : wr.cell? ⟨gv, k, none⟩ = some (csv[k]'(by omega)) := by rw [hbv.cell]; exact Array.getElem?_eq_getElem (by omega)
            have v1 : wr.frozen? ⟨gv, k, none⟩ = false := hbv.free k
            have HN2 := Lib.hid (HH.out.putT hbv hNv (by decide) (by decide) k (.int .u8 238))
            have k1' : (k : Int) < (x.val.2.2.length : Int) := by omega
            generalize csv[k]'(by omega) = vv at v0
            clear hAv hbv hsv
            go_wp2_with fail
            go_roundw
            case rel => exact ⟨k + 1, by omega, by go_num, HN2⟩
            case measure => simp [intOf]; omega
          · go_wp2_with fail
            go_roundw
            case rel => exact ⟨i + 1, by omega, by go_num, HH⟩
            case measure => simp [intOf]; omega
      have hf5 : Fr NoBlk w5 wr := HF58.out.step HH.out.fr (fun i hi e => by have := HNE.out; omega)
      have HF9 := Lib.hid (HFC.out.trans hf5)
      have HBA9 := Lib.hid (HBAC.out.fr hf5 (fun h => h))
      have HBB9 := Lib.hid (HBBC.out.fr hf5 (fun h => h))
      have HBU9 := Lib.hid (HBUC.out.fr hf5 (fun h => h))
      have HU9 := Lib.hid (HUI.out.nofr hf5)
      clear hf5 HH HFC HBAC HBBC HBUC HUI HF58 HNE
      have K2 := Lib.hid (osame_any wr u a HU9.out (HA.out.nofr HF9.out) HSU.out HSA.out)
      rw [(orderSame_iff u a).2 HLU.out] at K2
      unfold odv oda at K2
      obtain ⟨d0, d1, d2, d3, d4, d5, d6, d7, d8, d9⟩ := HBU9.out.ord
      obtain ⟨p0, p1, p2, p3, p4, p5, p6, p7, p8, p9⟩ := HBA9.out.ord
      go_wp2_with fail
      refine K2.out.mono ?_
      rintro e w10 ⟨rfl, hf10⟩
      have HF10 := Lib.hid (HF9.out.trans hf10)
      have HBA10 := Lib.hid (HBA9.out.fr hf10 (fun h => h))
      have HBB10 := Lib.hid (HBB9.out.fr hf10 (fun h => h))
      clear d0 d1 d2 d3 d4 d5 d6 d7 d8 d9 p0 p1 p2 p3 p4 p5 p6 p7 p8 p9 K2 hf10 HBA9 HBB9 HBU9 HU9 HF9 HLU HSU
      obtain ⟨p0, p1, p2, p3, p4, p5, p6, p7, p8, p9⟩ := HBA10.out.ord
      have HW1 := Lib.hid (write_any w10 a (HA.out.nofr HF10.out) (by have := HSA.out.t.r; omega) (by have := HSA.out.t.w; omega) HNA.out)
      unfold odv oda WritePost at HW1
      go_wp2_with fail
      refine HW1.out.mono ?_
      clear HW1
      intro e w11 hp4
      by_cases hra : orderR a 3 = true
      rotate_left
      · rw [if_neg hra] at hp4
        obtain ⟨rfl, hf4⟩ := hp4
        have HF11 := Lib.hid (HF10.out.trans hf4)
        have HBB11 := Lib.hid (HBB10.out.fr hf4 (fun h => h))
        clear hf4 hra p0 p1 p2 p3 p4 p5 p6 p7 p8 p9
        obtain ⟨p0, p1, p2, p3, p4, p5, p6, p7, p8, p9⟩ := HBB11.out.ord
        have HW2 := Lib.hid (write_any w11 b (HB.out.nofr HF11.out) (by have := HSB.out.t.r; omega) (by have := HSB.out.t.w; omega) HNB.out)
        unfold odv oda WritePost at HW2
        go_wp2_with fail
        refine HW2.out.mono ?_
        clear HW2
        intro e w12 hp5
        by_cases hrb : orderR b 3 = true
        · rw [if_pos hrb] at hp5
          obtain ⟨v5, rfl, hn5⟩ := hp5
          obtain ⟨A5, c5, rfl, hc5, hA5⟩ := own_form hn5.own
          have HF12 := Lib.hid (HF11.out.trans hn5.fr)
          clear hn5 hrb hc5 hA5
          go_wp2_with fail
          refine wp_region_held_drew (S := fun _ => True) (by kernel_rfl) trivial (fun hHeld => ?_)
          refine wpAnyH_take (i := 0) (oi := ⟨some 85, _, _, _, _, _⟩) (v := ?_) rfl (by kernel_rfl) (by kernel_rfl) (by kernel_rfl) (fun _ _ _ h => h) (Or.inl ⟨by rfl, ?_⟩) (by assumption) ?_
          rotate_left 1
          · (intro w hSw; (try dsimp only at hSw); go_simp) <;> (with_reducible rfl)
          try simp only [Act.put, List.setIfInBounds_toArray, List.set_cons_zero, List.set_cons_succ]
          refine wpAnyH_take (i := 1) (oi := ⟨some 86, _, _, _, _, _⟩) (v := ?_) rfl (by kernel_rfl) (by kernel_rfl) (by kernel_rfl) (fun _ _ _ h => h) (Or.inl ⟨by rfl, ?_⟩) (by assumption) ?_
          rotate_left 1
          · (intro w hSw; (try dsimp only at hSw); go_simp) <;> (with_reducible rfl)
          try simp only [Act.put, List.setIfInBounds_toArray, List.set_cons_zero, List.set_cons_succ]
          refine wpAnyH_take (i := 2) (oi := ⟨some 87, _, _, _, _, _⟩) (v := ?_) rfl (by kernel_rfl) (by kernel_rfl) (by kernel_rfl) (fun _ _ _ h => h) (Or.inl ⟨by rfl, ?_⟩) (by assumption) ?_
          rotate_left 1
          · (intro w hSw; (try dsimp only at hSw); go_simp) <;> (with_reducible rfl)
          try simp only [Act.put, List.setIfInBounds_toArray, List.set_cons_zero, List.set_cons_succ]
          refine wpAnyH_take (i := 3) (oi := ⟨some 88, _, _, _, _, _⟩) (v := undef) rfl (by kernel_rfl) (by kernel_rfl) (by kernel_rfl) (fun _ _ _ h => h) (Or.inr ⟨by rfl, rfl⟩) (by assumption) ?_
          try simp only [Act.put, List.setIfInBounds_toArray, List.set_cons_zero, List.set_cons_succ]
          refine wpAnyH_take (i := 4) (oi := ⟨some 89, _, _, _, _, _⟩) (v := undef) rfl (by kernel_rfl) (by kernel_rfl) (by kernel_rfl) (fun _ _ _ h => h) (Or.inr ⟨by rfl, rfl⟩) (by assumption) ?_
          try simp only [Act.put, List.setIfInBounds_toArray, List.set_cons_zero, List.set_cons_succ]
          refine wpAnyH_take (i := 5) (oi := ⟨some 90, _, _, _, _, _⟩) (v := ?_) rfl (by kernel_rfl) (by kernel_rfl) (by kernel_rfl) (fun _ _ _ h => h) (Or.inl ⟨by rfl, ?_⟩) (by assumption) ?_
          rotate_left 1
          · (intro w hSw; (try dsimp only at hSw); go_simp) <;> (with_reducible rfl)
          try simp only [Act.put, List.setIfInBounds_toArray, List.set_cons_zero, List.set_cons_succ]
          refine wpAnyH_take (i := 6) (oi := ⟨some 91, _, _, _, _, _⟩) (v := ?_) rfl (by kernel_rfl) (by kernel_rfl) (by kernel_rfl) (fun _ _ _ h => h) (Or.inl ⟨by rfl, ?_⟩) (by assumption) ?_
          rotate_left 1
          · (intro w hSw; (try dsimp only at hSw); go_simp) <;> (with_reducible rfl)
          try simp only [Act.put, List.setIfInBounds_toArray, List.set_cons_zero, List.set_cons_succ]
          refine wpAnyH_take (i := 7) (oi := ⟨some 92, _, _, _, _, _⟩) (v := undef) rfl (by kernel_rfl) (by kernel_rfl) (by kernel_rfl) (fun _ _ _ h => h) (Or.inr ⟨by rfl, rfl⟩) (by assumption) ?_
          try simp only [Act.put, List.setIfInBounds_toArray, List.set_cons_zero, List.set_cons_succ]
          refine wpAnyH_take (i := 8) (oi := ⟨some 93, _, _, _, _, _⟩) (v := undef) rfl (by kernel_rfl) (by kernel_rfl) (by kernel_rfl) (fun _ _ _ h => h) (Or.inr ⟨by rfl, rfl⟩) (by assumption) ?_
          try simp only [Act.put, List.setIfInBounds_toArray, List.set_cons_zero, List.set_cons_succ]
          refine wpAnyH_take (i := 9) (oi := ⟨some 94, _, _, _, _, _⟩) (v := undef) rfl (by kernel_rfl) (by kernel_rfl) (by kernel_rfl) (fun _ _ _ h => h) (Or.inr ⟨by rfl, rfl⟩) (by assumption) ?_
          try simp only [Act.put, List.setIfInBounds_toArray, List.set_cons_zero, List.set_cons_succ]
          refine wpAnyH_take (i := 10) (oi := ⟨some 95, _, _, _, _, _⟩) (v := undef) rfl (by kernel_rfl) (by kernel_rfl) (by kernel_rfl) (fun _ _ _ h => h) (Or.inr ⟨by rfl, rfl⟩) (by assumption) ?_
          try simp only [Act.put, List.setIfInBounds_toArray, List.set_cons_zero, List.set_cons_succ]
          refine wpAnyH_take (i := 11) (oi := ⟨some 96, _, _, _, _, _⟩) (v := undef) rfl (by kernel_rfl) (by kernel_rfl) (by kernel_rfl) (fun _ _ _ h => h) (Or.inr ⟨by rfl, rfl⟩) (by assumption) ?_
          try simp only [Act.put, List.setIfInBounds_toArray, List.set_cons_zero, List.set_cons_succ]
          refine wpAnyH_take (i := 12) (oi := ⟨some 97, _, _, _, _, _⟩) (v := undef) rfl (by kernel_rfl) (by kernel_rfl) (by kernel_rfl) (fun _ _ _ h => h) (Or.inr ⟨by rfl, rfl⟩) (by assumption) ?_
          try simp only [Act.put, List.setIfInBounds_toArray, List.set_cons_zero, List.set_cons_succ]
          refine wpAnyH_take (i := 13) (oi := ⟨some 98, _, _, _, _, _⟩) (v := undef) rfl (by kernel_rfl) (by kernel_rfl) (by kernel_rfl) (fun _ _ _ h => h) (Or.inr ⟨by rfl, rfl⟩) (by assumption) ?_
          try simp only [Act.put, List.setIfInBounds_toArray, List.set_cons_zero, List.set_cons_succ]
          refine wpAnyH_take (i := 14) (oi := ⟨some 99, _, _, _, _, _⟩) (v := undef) rfl (by kernel_rfl) (by kernel_rfl) (by kernel_rfl) (fun _ _ _ h => h) (Or.inr ⟨by rfl, rfl⟩) (by assumption) ?_
          try simp only [Act.put, List.setIfInBounds_toArray, List.set_cons_zero, List.set_cons_succ]
          refine wpAnyH_take (i := 15) (oi := ⟨some 100, _, _, _, _, _⟩) (v := undef) rfl (by kernel_rfl) (by kernel_rfl) (by kernel_rfl) (fun _ _ _ h => h) (Or.inr ⟨by rfl, rfl⟩) (by assumption) ?_
          try simp only [Act.put, List.setIfInBounds_toArray, List.set_cons_zero, List.set_cons_succ]
          refine wpAnyH_take (i := 16) (oi := ⟨some 101, _, _, _, _, _⟩) (v := ?_) rfl (by kernel_rfl) (by kernel_rfl) (by kernel_rfl) (fun _ _ _ h => h) (Or.inl ⟨by rfl, ?_⟩) (by assumption) ?_
          rotate_left 1
          · (intro w hSw; (try dsimp only at hSw); go_simp) <;> (with_reducible rfl)
          try simp only [Act.put, List.setIfInBounds_toArray, List.set_cons_zero, List.set_cons_succ]
          refine wpAnyH_take (i := 17) (oi := ⟨some 4, _, _, _, _, _⟩) (v := ?_) rfl (by kernel_rfl) (by kernel_rfl) (by kernel_rfl) (fun _ _ _ h => h) (Or.inl ⟨by rfl, ?_⟩) (by assumption) ?_
          rotate_left 1
          · (intro w hSw; (try dsimp only at hSw); go_simp) <;> (with_reducible rfl)
          try simp only [Act.put, List.setIfInBounds_toArray, List.set_cons_zero, List.set_cons_succ]
          refine wpAnyH_done (by kernel_rfl) ?_ _
          go_wp2_with fail
          go_ret
          exact ⟨rfl, HF12.out.drew⟩
        · rw [if_neg hrb] at hp5
          obtain ⟨rfl, hf5⟩ := hp5
          have HF12 := Lib.hid (HF11.out.trans hf5)
          clear hf5 hrb
          go_wp2_with fail
          refine wp_region_held_drew (S := fun _ => True) (by kernel_rfl) trivial (fun hHeld => ?_)
          refine wpAnyH_take (i := 0) (oi := ⟨some 85, _, _, _, _, _⟩) (v := ?_) rfl (by kernel_rfl) (by kernel_rfl) (by kernel_rfl) (fun _ _ _ h => h) (Or.inl ⟨by rfl, ?_⟩) (by assumption) ?_
          rotate_left 1
          · (intro w hSw; (try dsimp only at hSw); go_simp) <;> (with_reducible rfl)
          try simp only [Act.put, List.setIfInBounds_toArray, List.set_cons_zero, List.set_cons_succ]
          refine wpAnyH_take (i := 1) (oi := ⟨some 86, _, _, _, _, _⟩) (v := ?_) rfl (by kernel_rfl) (by kernel_rfl) (by kernel_rfl) (fun _ _ _ h => h) (Or.inl ⟨by rfl, ?_⟩) (by assumption) ?_
          rotate_left 1
          · (intro w hSw; (try dsimp only at hSw); go_simp) <;> (with_reducible rfl)
          try simp only [Act.put, List.setIfInBounds_toArray, List.set_cons_zero, List.set_cons_succ]
          refine wpAnyH_take (i := 2) (oi := ⟨some 87, _, _, _, _, _⟩) (v := ?_) rfl (by kernel_rfl) (by kernel_rfl) (by kernel_rfl) (fun _ _ _ h => h) (Or.inl ⟨by rfl, ?_⟩) (by assumption) ?_
          rotate_left 1
          · (intro w hSw; (try dsimp only at hSw); go_simp) <;> (with_reducible rfl)
          try simp only [Act.put, List.setIfInBounds_toArray, List.set_cons_zero, List.set_cons_succ]
          refine wpAnyH_take (i := 3) (oi := ⟨some 88, _, _, _, _, _⟩) (v := undef) rfl (by kernel_rfl) (by kernel_rfl) (by kernel_rfl) (fun _ _ _ h => h) (Or.inr ⟨by rfl, rfl⟩) (by assumption) ?_
          try simp only [Act.put, List.setIfInBounds_toArray, List.set_cons_zero, List.set_cons_succ]
          refine wpAnyH_take (i := 4) (oi := ⟨some 89, _, _, _, _, _⟩) (v := undef) rfl (by kernel_rfl) (by kernel_rfl) (by kernel_rfl) (fun _ _ _ h => h) (Or.inr ⟨by rfl, rfl⟩) (by assumption) ?_
          try simp only [Act.put, List.setIfInBounds_toArray, List.set_cons_zero, List.set_cons_succ]
          refine wpAnyH_take (i := 5) (oi := ⟨some 90, _, _, _, _, _⟩) (v := ?_) rfl (by kernel_rfl) (by kernel_rfl) (by kernel_rfl) (fun _ _ _ h => h) (Or.inl ⟨by rfl, ?_⟩) (by assumption) ?_
          rotate_left 1
          · (intro w hSw; (try dsimp only at hSw); go_simp) <;> (with_reducible rfl)
          try simp only [Act.put, List.setIfInBounds_toArray, List.set_cons_zero, List.set_cons_succ]
          refine wpAnyH_take (i := 6) (oi := ⟨some 91, _, _, _, _, _⟩) (v := ?_) rfl (by kernel_rfl) (by kernel_rfl) (by kernel_rfl) (fun _ _ _ h => h) (Or.inl ⟨by rfl, ?_⟩) (by assumption) ?_
          rotate_left 1
          · (intro w hSw; (try dsimp only at hSw); go_simp) <;> (with_reducible rfl)
          try simp only [Act.put, List.setIfInBounds_toArray, List.set_cons_zero, List.set_cons_succ]
          refine wpAnyH_take (i := 7) (oi := ⟨some 92, _, _, _, _, _⟩) (v := undef) rfl (by kernel_rfl) (by kernel_rfl) (by kernel_rfl) (fun _ _ _ h => h) (Or.inr ⟨by rfl, rfl⟩) (by assumption) ?_
          try simp only [Act.put, List.setIfInBounds_toArray, List.set_cons_zero, List.set_cons_succ]
          refine wpAnyH_take (i := 8) (oi := ⟨some 93, _, _, _, _, _⟩) (v := undef) rfl (by kernel_rfl) (by kernel_rfl) (by kernel_rfl) (fun _ _ _ h => h) (Or.inr ⟨by rfl, rfl⟩) (by assumption) ?_
          try simp only [Act.put, List.setIfInBounds_toArray, List.set_cons_zero, List.set_cons_succ]
          refine wpAnyH_take (i := 9) (oi := ⟨some 94, _, _, _, _, _⟩) (v := undef) rfl (by kernel_rfl) (by kernel_rfl) (by kernel_rfl) (fun _ _ _ h => h) (Or.inr ⟨by rfl, rfl⟩) (by assumption) ?_
          try simp only [Act.put, List.setIfInBounds_toArray, List.set_cons_zero, List.set_cons_succ]
          refine wpAnyH_take (i := 10) (oi := ⟨some 95, _, _, _, _, _⟩) (v := undef) rfl (by kernel_rfl) (by kernel_rfl) (by kernel_rfl) (fun _ _ _ h => h) (Or.inr ⟨by rfl, rfl⟩) (by assumption) ?_
          try simp only [Act.put, List.setIfInBounds_toArray, List.set_cons_zero, List.set_cons_succ]
          refine wpAnyH_take (i := 11) (oi := ⟨some 96, _, _, _, _, _⟩) (v := undef) rfl (by kernel_rfl) (by kernel_rfl) (by kernel_rfl) (fun _ _ _ h => h) (Or.inr ⟨by rfl, rfl⟩) (by assumption) ?_
          try simp only [Act.put, List.setIfInBounds_toArray, List.set_cons_zero, List.set_cons_succ]
          refine wpAnyH_take (i := 12) (oi := ⟨some 97, _, _, _, _, _⟩) (v := undef) rfl (by kernel_rfl) (by kernel_rfl) (by kernel_rfl) (fun _ _ _ h => h) (Or.inr ⟨by rfl, rfl⟩) (by assumption) ?_
          try simp only [Act.put, List.setIfInBounds_toArray, List.set_cons_zero, List.set_cons_succ]
          refine wpAnyH_take (i := 13) (oi := ⟨some 98, _, _, _, _, _⟩) (v := undef) rfl (by kernel_rfl) (by kernel_rfl) (by kernel_rfl) (fun _ _ _ h => h) (Or.inr ⟨by rfl, rfl⟩) (by assumption) ?_
          try simp only [Act.put, List.setIfInBounds_toArray, List.set_cons_zero, List.set_cons_succ]
          refine wpAnyH_take (i := 14) (oi := ⟨some 99, _, _, _, _, _⟩) (v := undef) rfl (by kernel_rfl) (by kernel_rfl) (by kernel_rfl) (fun _ _ _ h => h) (Or.inr ⟨by rfl, rfl⟩) (by assumption) ?_
          try simp only [Act.put, List.setIfInBounds_toArray, List.set_cons_zero, List.set_cons_succ]
          refine wpAnyH_take (i := 15) (oi := ⟨some 100, _, _, _, _, _⟩) (v := undef) rfl (by kernel_rfl) (by kernel_rfl) (by kernel_rfl) (fun _ _ _ h => h) (Or.inr ⟨by rfl, rfl⟩) (by assumption) ?_
          try simp only [Act.put, List.setIfInBounds_toArray, List.set_cons_zero, List.set_cons_succ]
          refine wpAnyH_take (i := 16) (oi := ⟨some 101, _, _, _, _, _⟩) (v := ?_) rfl (by kernel_rfl) (by kernel_rfl) (by kernel_rfl) (fun _ _ _ h => h) (Or.inl ⟨by rfl, ?_⟩) (by assumption) ?_
          rotate_left 1
          · (intro w hSw; (try dsimp only at hSw); go_simp) <;> (with_reducible rfl)
          try simp only [Act.put, List.setIfInBounds_toArray, List.set_cons_zero, List.set_cons_succ]
          refine wpAnyH_take (i := 17) (oi := ⟨some 4, _, _, _, _, _⟩) (v := ?_) rfl (by kernel_rfl) (by kernel_rfl) (by kernel_rfl) (fun _ _ _ h => h) (Or.inl ⟨by rfl, ?_⟩) (by assumption) ?_
          rotate_left 1
          · (intro w hSw; (try dsimp only at hSw); go_simp) <;> (with_reducible rfl)
          try simp only [Act.put, List.setIfInBounds_toArray, List.set_cons_zero, List.set_cons_succ]
          refine wpAnyH_done (by kernel_rfl) ?_ _
          go_wp2_with fail
          go_ret
          exact ⟨rfl, HF12.out.drew⟩
      rw [if_pos hra] at hp4
      obtain ⟨v4, rfl, hn4⟩ := hp4
      obtain ⟨A4, c4, rfl, hc4, hA4⟩ := own_form hn4.own
      have HR4 := Lib.hid (Rd.of_own hn4.own)
      have HF11 := Lib.hid (HF10.out.trans hn4.fr)
      have HBA11 := Lib.hid (HBA10.out.fr hn4.fr (fun h => h))
      have HBB11 := Lib.hid (HBB10.out.fr hn4.fr (fun h => h))
      have HRA := Lib.hid hra
      clear hn4 hc4 hA4 hra p0 p1 p2 p3 p4 p5 p6 p7 p8 p9
      obtain ⟨p0, p1, p2, p3, p4, p5, p6, p7, p8, p9⟩ := HBB11.out.ord
      have HW2 := Lib.hid (write_any w11 b (HB.out.nofr HF11.out) (by have := HSB.out.t.r; omega) (by have := HSB.out.t.w; omega) HNB.out)
      unfold odv oda WritePost at HW2
      go_wp2_with fail
      refine HW2.out.mono ?_
      clear HW2
      intro e w12 hp5
      by_cases hrb : orderR b 3 = true
      rotate_left
      · rw [if_neg hrb] at hp5
        obtain ⟨rfl, hf5⟩ := hp5
        have HF12 := Lib.hid (HF11.out.trans hf5)
        clear hf5 hrb
        go_wp2_with fail
        refine wp_region_held_drew (S := fun _ => True) (by kernel_rfl) trivial (fun hHeld => ?_)
        refine wpAnyH_take (i := 0) (oi := ⟨some 85, _, _, _, _, _⟩) (v := ?_) rfl (by kernel_rfl) (by kernel_rfl) (by kernel_rfl) (fun _ _ _ h => h) (Or.inl ⟨by rfl, ?_⟩) (by assumption) ?_
        rotate_left 1
        · (intro w hSw; (try dsimp only at hSw); go_simp) <;> (with_reducible rfl)
        try simp only [Act.put, List.setIfInBounds_toArray, List.set_cons_zero, List.set_cons_succ]
        refine wpAnyH_take (i := 1) (oi := ⟨some 86, _, _, _, _, _⟩) (v := ?_) rfl (by kernel_rfl) (by kernel_rfl) (by kernel_rfl) (fun _ _ _ h => h) (Or.inl ⟨by rfl, ?_⟩) (by assumption) ?_
        rotate_left 1
        · (intro w hSw; (try dsimp only at hSw); go_simp) <;> (with_reducible rfl)
        try simp only [Act.put, List.setIfInBounds_toArray, List.set_cons_zero, List.set_cons_succ]
        refine wpAnyH_take (i := 2) (oi := ⟨some 87, _, _, _, _, _⟩) (v := ?_) rfl (by kernel_rfl) (by kernel_rfl) (by kernel_rfl) (fun _ _ _ h => h) (Or.inl ⟨by rfl, ?_⟩) (by assumption) ?_
        rotate_left 1
        · (intro w hSw; (try dsimp only at hSw); go_simp) <;> (with_reducible rfl)
        try simp only [Act.put, List.setIfInBounds_toArray, List.set_cons_zero, List.set_cons_succ]
        refine wpAnyH_take (i := 3) (oi := ⟨some 88, _, _, _, _, _⟩) (v := ?_) rfl (by kernel_rfl) (by kernel_rfl) (by kernel_rfl) (fun _ _ _ h => h) (Or.inl ⟨by rfl, ?_⟩) (by assumption) ?_
        rotate_left 1
        · (intro w hSw; (try dsimp only at hSw); go_simp) <;> (with_reducible rfl)
        try simp only [Act.put, List.setIfInBounds_toArray, List.set_cons_zero, List.set_cons_succ]
        refine wpAnyH_take (i := 4) (oi := ⟨some 89, _, _, _, _, _⟩) (v := ?_) rfl (by kernel_rfl) (by kernel_rfl) (by kernel_rfl) (fun _ _ _ h => h) (Or.inl ⟨by rfl, ?_⟩) (by assumption) ?_
        rotate_left 1
        · (intro w hSw; (try dsimp only at hSw); go_simp) <;> (with_reducible rfl)
        try simp only [Act.put, List.setIfInBounds_toArray, List.set_cons_zero, List.set_cons_succ]
        refine wpAnyH_take (i := 5) (oi := ⟨some 90, _, _, _, _, _⟩) (v := ?_) rfl (by kernel_rfl) (by kernel_rfl) (by kernel_rfl) (fun _ _ _ h => h) (Or.inl ⟨by rfl, ?_⟩) (by assumption) ?_
        rotate_left 1
        · (intro w hSw; (try dsimp only at hSw); go_simp) <;> (with_reducible rfl)
        try simp only [Act.put, List.setIfInBounds_toArray, List.set_cons_zero, List.set_cons_succ]
        refine wpAnyH_take (i := 6) (oi := ⟨some 91, _, _, _, _, _⟩) (v := ?_) rfl (by kernel_rfl) (by kernel_rfl) (by kernel_rfl) (fun _ _ _ h => h) (Or.inl ⟨by rfl, ?_⟩) (by assumption) ?_
        rotate_left 1
        · (intro w hSw; (try dsimp only at hSw); go_simp) <;> (with_reducible rfl)
        try simp only [Act.put, List.setIfInBounds_toArray, List.set_cons_zero, List.set_cons_succ]
        refine wpAnyH_take (i := 7) (oi := ⟨some 92, _, _, _, _, _⟩) (v := undef) rfl (by kernel_rfl) (by kernel_rfl) (by kernel_rfl) (fun _ _ _ h => h) (Or.inr ⟨by rfl, rfl⟩) (by assumption) ?_
        try simp only [Act.put, List.setIfInBounds_toArray, List.set_cons_zero, List.set_cons_succ]
        refine wpAnyH_take (i := 8) (oi := ⟨some 93, _, _, _, _, _⟩) (v := undef) rfl (by kernel_rfl) (by kernel_rfl) (by kernel_rfl) (fun _ _ _ h => h) (Or.inr ⟨by rfl, rfl⟩) (by assumption) ?_
        try simp only [Act.put, List.setIfInBounds_toArray, List.set_cons_zero, List.set_cons_succ]
        refine wpAnyH_take (i := 9) (oi := ⟨some 94, _, _, _, _, _⟩) (v := undef) rfl (by kernel_rfl) (by kernel_rfl) (by kernel_rfl) (fun _ _ _ h => h) (Or.inr ⟨by rfl, rfl⟩) (by assumption) ?_
        try simp only [Act.put, List.setIfInBounds_toArray, List.set_cons_zero, List.set_cons_succ]
        refine wpAnyH_take (i := 10) (oi := ⟨some 95, _, _, _, _, _⟩) (v := undef) rfl (by kernel_rfl) (by kernel_rfl) (by kernel_rfl) (fun _ _ _ h => h) (Or.inr ⟨by rfl, rfl⟩) (by assumption) ?_
        try simp only [Act.put, List.setIfInBounds_toArray, List.set_cons_zero, List.set_cons_succ]
        refine wpAnyH_take (i := 11) (oi := ⟨some 96, _, _, _, _, _⟩) (v := undef) rfl (by kernel_rfl) (by kernel_rfl) (by kernel_rfl) (fun _ _ _ h => h) (Or.inr ⟨by rfl, rfl⟩) (by assumption) ?_
        try simp only [Act.put, List.setIfInBounds_toArray, List.set_cons_zero, List.set_cons_succ]
        refine wpAnyH_take (i := 12) (oi := ⟨some 97, _, _, _, _, _⟩) (v := undef) rfl (by kernel_rfl) (by kernel_rfl) (by kernel_rfl) (fun _ _ _ h => h) (Or.inr ⟨by rfl, rfl⟩) (by assumption) ?_
        try simp only [Act.put, List.setIfInBounds_toArray, List.set_cons_zero, List.set_cons_succ]
        refine wpAnyH_take (i := 13) (oi := ⟨some 98, _, _, _, _, _⟩) (v := undef) rfl (by kernel_rfl) (by kernel_rfl) (by kernel_rfl) (fun _ _ _ h => h) (Or.inr ⟨by rfl, rfl⟩) (by assumption) ?_
        try simp only [Act.put, List.setIfInBounds_toArray, List.set_cons_zero, List.set_cons_succ]
        refine wpAnyH_take (i := 14) (oi := ⟨some 99, _, _, _, _, _⟩) (v := undef) rfl (by kernel_rfl) (by kernel_rfl) (by kernel_rfl) (fun _ _ _ h => h) (Or.inr ⟨by rfl, rfl⟩) (by assumption) ?_
        try simp only [Act.put, List.setIfInBounds_toArray, List.set_cons_zero, List.set_cons_succ]
        refine wpAnyH_take (i := 15) (oi := ⟨some 100, _, _, _, _, _⟩) (v := undef) rfl (by kernel_rfl) (by kernel_rfl) (by kernel_rfl) (fun _ _ _ h => h) (Or.inr ⟨by rfl, rfl⟩) (by assumption) ?_
        try simp only [Act.put, List.setIfInBounds_toArray, List.set_cons_zero, List.set_cons_succ]
        refine wpAnyH_take (i := 16) (oi := ⟨some 101, _, _, _, _, _⟩) (v := ?_) rfl (by kernel_rfl) (by kernel_rfl) (by kernel_rfl) (fun _ _ _ h => h) (Or.inl ⟨by rfl, ?_⟩) (by assumption) ?_
        rotate_left 1
        · (intro w hSw; (try dsimp only at hSw); go_simp) <;> (with_reducible rfl)
        try simp only [Act.put, List.setIfInBounds_toArray, List.set_cons_zero, List.set_cons_succ]
        refine wpAnyH_take (i := 17) (oi := ⟨some 4, _, _, _, _, _⟩) (v := ?_) rfl (by kernel_rfl) (by kernel_rfl) (by kernel_rfl) (fun _ _ _ h => h) (Or.inl ⟨by rfl, ?_⟩) (by assumption) ?_
        rotate_left 1
        · (intro w hSw; (try dsimp only at hSw); go_simp) <;> (with_reducible rfl)
        try simp only [Act.put, List.setIfInBounds_toArray, List.set_cons_zero, List.set_cons_succ]
        refine wpAnyH_done (by kernel_rfl) ?_ _
        go_wp2_with fail
        go_ret
        exact ⟨rfl, HF12.out.drew⟩
      rw [if_pos hrb] at hp5
      obtain ⟨v5, rfl, hn5⟩ := hp5
      obtain ⟨A5, c5, rfl, hc5, hA5⟩ := own_form hn5.own
      have HR5 := Lib.hid (Rd.of_own hn5.own)
      have HF12 := Lib.hid (HF11.out.trans hn5.fr)
      have HFW := Lib.hid hn5.fr
      have HBA12 := Lib.hid (HBA11.out.fr hn5.fr (fun h => h))
      have HBB12 := Lib.hid (HBB11.out.fr hn5.fr (fun h => h))
      have HRB := Lib.hid hrb
      clear hn5 hc5 hA5 hrb p0 p1 p2 p3 p4 p5 p6 p7 p8 p9
      have HEQ := Lib.hid (orderB_iff HRA.out HRB.out HNA.out HNB.out HA.out.nums HB.out.nums)
      have HSAM := Lib.hid fun W (hf : Fr NoBlk w12 W) => osame_any W a b (HA.out.nofr (HF12.out.trans hf)) (HB.out.nofr (HF12.out.trans hf)) HSA.out HSB.out
      obtain ⟨n4, hn4⟩ : ∃ n4, n4 = (orderB a).length := ⟨_, rfl⟩
      obtain ⟨n5, hn5⟩ : ∃ n5, n5 = (orderB b).length := ⟨_, rfl⟩
      have HL4 := Lib.hid hn4
      have HL5 := Lib.hid hn5
      rw [← hn4, ← hn5]
      clear hn4 hn5
      obtain ⟨X4, hX4⟩ : ∃ X4, X4 = orderB a := ⟨_, rfl⟩
      obtain ⟨X5, hX5⟩ : ∃ X5, X5 = orderB b := ⟨_, rfl⟩
      rw [← hX4] at HR4 HEQ HL4
      rw [← hX5] at HR5 HEQ HL5
      clear hX4 hX5
      have e3 := bstr_toList X4
      have e4 := bstr_toList X5
      have hq := HEQ.out
      generalize orderSame a b = sm at *
      have sOf : Hid (∀ w', Fr NoBlk w12 w' → (w'.cell? ⟨w.heap.size, 0, none⟩ = some (.int .i64 a.node) ∧ w'.cell? ⟨w.heap.size, 1, none⟩ = some (.int .u64 (a.epoch : Int)) ∧ w'.cell? ⟨w.heap.size, 2, none⟩ = some (.int .u64 (a.seq : Int)) ∧ w'.cell? ⟨w.heap.size, 3, none⟩ = some (.int .i64 a.tr) ∧ w'.cell? ⟨w.heap.size, 4, none⟩ = some (.int .i64 a.t.kind) ∧ w'.cell? ⟨w.heap.size, 5, none⟩ = some (.slice a.t.ra a.t.reads.length a.t.rc) ∧ w'.cell? ⟨w.heap.size, 6, none⟩ = some (.slice a.t.wa a.t.writes.length a.t.wc) ∧ w'.cell? ⟨w.heap.size, 7, none⟩ = some (.slice a.t.oa a.t.ops.length a.t.oc) ∧ w'.cell? ⟨w.heap.size, 8, none⟩ = some (.int .i64 a.t.to) ∧ w'.cell? ⟨w.heap.size, 9, none⟩ = some (.slice a.ma a.marks.length a.mc)) ∧ ((w'.cell? ⟨w.heap.size + 1, 0, none⟩ = some (.int .i64 b.node) ∧ w'.cell? ⟨w.heap.size + 1, 1, none⟩ = some (.int .u64 (b.epoch : Int)) ∧ w'.cell? ⟨w.heap.size + 1, 2, none⟩ = some (.int .u64 (b.seq : Int)) ∧ w'.cell? ⟨w.heap.size + 1, 3, none⟩ = some (.int .i64 b.tr) ∧ w'.cell? ⟨w.heap.size + 1, 4, none⟩ = some (.int .i64 b.t.kind) ∧ w'.cell? ⟨w.heap.size + 1, 5, none⟩ = some (.slice b.t.ra b.t.reads.length b.t.rc) ∧ w'.cell? ⟨w.heap.size + 1, 6, none⟩ = some (.slice b.t.wa b.t.writes.length b.t.wc) ∧ w'.cell? ⟨w.heap.size + 1, 7, none⟩ = some (.slice b.t.oa b.t.ops.length b.t.oc) ∧ w'.cell? ⟨w.heap.size + 1, 8, none⟩ = some (.int .i64 b.t.to) ∧ w'.cell? ⟨w.heap.size + 1, 9, none⟩ = some (.slice b.ma b.marks.length b.mc)) ∧ ((convert 45 9 (.slice A4 n4 c4)).run Try.prog w' = .ok (.string (bstr (X4))) w' ∧ (convert 45 9 (.slice A5 n5 c5)).run Try.prog w' = .ok (.string (bstr (X5))) w'))) := fun W hf => ⟨(HBA12.out.fr hf (fun h => h)).ord, (HBB12.out.fr hf (fun h => h)).ord,
        strOf W A4 _ c4 X4 HL4.out (HR4.out.nofr (HFW.out.trans hf)), strOf W A5 _ c5 X5 HL5.out (HR5.out.nofr hf)⟩
      unfold odv oda at HSAM
      clear HRA HRB HR4 HR5 HL4 HL5 HFW HBA12 HBB12 HBA11 HBB11 HBA10 HBB10 HF11 HF10 HEQ
      go_wp2_with fail
      refine wp_region_held_drew (S := fun w' => (w'.cell? ⟨w.heap.size, 0, none⟩ = some (.int .i64 a.node) ∧ w'.cell? ⟨w.heap.size, 1, none⟩ = some (.int .u64 (a.epoch : Int)) ∧ w'.cell? ⟨w.heap.size, 2, none⟩ = some (.int .u64 (a.seq : Int)) ∧ w'.cell? ⟨w.heap.size, 3, none⟩ = some (.int .i64 a.tr) ∧ w'.cell? ⟨w.heap.size, 4, none⟩ = some (.int .i64 a.t.kind) ∧ w'.cell? ⟨w.heap.size, 5, none⟩ = some (.slice a.t.ra a.t.reads.length a.t.rc) ∧ w'.cell? ⟨w.heap.size, 6, none⟩ = some (.slice a.t.wa a.t.writes.length a.t.wc) ∧ w'.cell? ⟨w.heap.size, 7, none⟩ = some (.slice a.t.oa a.t.ops.length a.t.oc) ∧ w'.cell? ⟨w.heap.size, 8, none⟩ = some (.int .i64 a.t.to) ∧ w'.cell? ⟨w.heap.size, 9, none⟩ = some (.slice a.ma a.marks.length a.mc)) ∧ ((w'.cell? ⟨w.heap.size + 1, 0, none⟩ = some (.int .i64 b.node) ∧ w'.cell? ⟨w.heap.size + 1, 1, none⟩ = some (.int .u64 (b.epoch : Int)) ∧ w'.cell? ⟨w.heap.size + 1, 2, none⟩ = some (.int .u64 (b.seq : Int)) ∧ w'.cell? ⟨w.heap.size + 1, 3, none⟩ = some (.int .i64 b.tr) ∧ w'.cell? ⟨w.heap.size + 1, 4, none⟩ = some (.int .i64 b.t.kind) ∧ w'.cell? ⟨w.heap.size + 1, 5, none⟩ = some (.slice b.t.ra b.t.reads.length b.t.rc) ∧ w'.cell? ⟨w.heap.size + 1, 6, none⟩ = some (.slice b.t.wa b.t.writes.length b.t.wc) ∧ w'.cell? ⟨w.heap.size + 1, 7, none⟩ = some (.slice b.t.oa b.t.ops.length b.t.oc) ∧ w'.cell? ⟨w.heap.size + 1, 8, none⟩ = some (.int .i64 b.t.to) ∧ w'.cell? ⟨w.heap.size + 1, 9, none⟩ = some (.slice b.ma b.marks.length b.mc)) ∧ ((convert 45 9 (.slice A4 n4 c4)).run Try.prog w' = .ok (.string (bstr (X4))) w' ∧ (convert 45 9 (.slice A5 n5 c5)).run Try.prog w' = .ok (.string (bstr (X5))) w'))) (by kernel_rfl) (sOf.out _ ((Fr.refl _ _).drew)) (fun hHeld => ?_)
      refine wpAnyH_take (i := 0) (oi := ⟨some 85, _, _, _, _, _⟩) (v := ?_) rfl (by kernel_rfl) (by kernel_rfl) (by kernel_rfl) (fun _ _ _ h => h) (Or.inl ⟨by rfl, ?_⟩) (by assumption) ?_
      rotate_left 1
      · (intro w hSw; (try dsimp only at hSw); obtain ⟨⟨sa0, sa1, sa2, sa3, sa4, sa5, sa6, sa7, sa8, sa9⟩, ⟨sb0, sb1, sb2, sb3, sb4, sb5, sb6, sb7, sb8, sb9⟩, sc1, sc2⟩ := hSw; go_simp) <;> (with_reducible rfl)
      try simp only [Act.put, List.setIfInBounds_toArray, List.set_cons_zero, List.set_cons_succ]
      refine wpAnyH_take (i := 1) (oi := ⟨some 86, _, _, _, _, _⟩) (v := ?_) rfl (by kernel_rfl) (by kernel_rfl) (by kernel_rfl) (fun _ _ _ h => h) (Or.inl ⟨by rfl, ?_⟩) (by assumption) ?_
      rotate_left 1
      · (intro w hSw; (try dsimp only at hSw); obtain ⟨⟨sa0, sa1, sa2, sa3, sa4, sa5, sa6, sa7, sa8, sa9⟩, ⟨sb0, sb1, sb2, sb3, sb4, sb5, sb6, sb7, sb8, sb9⟩, sc1, sc2⟩ := hSw; go_simp) <;> (with_reducible rfl)
      try simp only [Act.put, List.setIfInBounds_toArray, List.set_cons_zero, List.set_cons_succ]
      refine wpAnyH_take (i := 2) (oi := ⟨some 87, _, _, _, _, _⟩) (v := ?_) rfl (by kernel_rfl) (by kernel_rfl) (by kernel_rfl) (fun _ _ _ h => h) (Or.inl ⟨by rfl, ?_⟩) (by assumption) ?_
      rotate_left 1
      · (intro w hSw; (try dsimp only at hSw); obtain ⟨⟨sa0, sa1, sa2, sa3, sa4, sa5, sa6, sa7, sa8, sa9⟩, ⟨sb0, sb1, sb2, sb3, sb4, sb5, sb6, sb7, sb8, sb9⟩, sc1, sc2⟩ := hSw; go_simp) <;> (with_reducible rfl)
      try simp only [Act.put, List.setIfInBounds_toArray, List.set_cons_zero, List.set_cons_succ]
      refine wpAnyH_take (i := 3) (oi := ⟨some 88, _, _, _, _, _⟩) (v := ?_) rfl (by kernel_rfl) (by kernel_rfl) (by kernel_rfl) (fun _ _ _ h => h) (Or.inl ⟨by rfl, ?_⟩) (by assumption) ?_
      rotate_left 1
      · (intro w hSw; (try dsimp only at hSw); obtain ⟨⟨sa0, sa1, sa2, sa3, sa4, sa5, sa6, sa7, sa8, sa9⟩, ⟨sb0, sb1, sb2, sb3, sb4, sb5, sb6, sb7, sb8, sb9⟩, sc1, sc2⟩ := hSw; go_simp) <;> (with_reducible rfl)
      try simp only [Act.put, List.setIfInBounds_toArray, List.set_cons_zero, List.set_cons_succ]
      refine wpAnyH_take (i := 4) (oi := ⟨some 89, _, _, _, _, _⟩) (v := ?_) rfl (by kernel_rfl) (by kernel_rfl) (by kernel_rfl) (fun _ _ _ h => h) (Or.inl ⟨by rfl, ?_⟩) (by assumption) ?_
      rotate_left 1
      · (intro w hSw; (try dsimp only at hSw); obtain ⟨⟨sa0, sa1, sa2, sa3, sa4, sa5, sa6, sa7, sa8, sa9⟩, ⟨sb0, sb1, sb2, sb3, sb4, sb5, sb6, sb7, sb8, sb9⟩, sc1, sc2⟩ := hSw; go_simp) <;> (with_reducible rfl)
      try simp only [Act.put, List.setIfInBounds_toArray, List.set_cons_zero, List.set_cons_succ]
      refine wpAnyH_take (i := 5) (oi := ⟨some 90, _, _, _, _, _⟩) (v := ?_) rfl (by kernel_rfl) (by kernel_rfl) (by kernel_rfl) (fun _ _ _ h => h) (Or.inl ⟨by rfl, ?_⟩) (by assumption) ?_
      rotate_left 1
      · (intro w hSw; (try dsimp only at hSw); obtain ⟨⟨sa0, sa1, sa2, sa3, sa4, sa5, sa6, sa7, sa8, sa9⟩, ⟨sb0, sb1, sb2, sb3, sb4, sb5, sb6, sb7, sb8, sb9⟩, sc1, sc2⟩ := hSw; go_simp) <;> (with_reducible rfl)
      try simp only [Act.put, List.setIfInBounds_toArray, List.set_cons_zero, List.set_cons_succ]
      refine wpAnyH_take (i := 6) (oi := ⟨some 91, _, _, _, _, _⟩) (v := ?_) rfl (by kernel_rfl) (by kernel_rfl) (by kernel_rfl) (fun _ _ _ h => h) (Or.inl ⟨by rfl, ?_⟩) (by assumption) ?_
      rotate_left 1
      · (intro w hSw; (try dsimp only at hSw); obtain ⟨⟨sa0, sa1, sa2, sa3, sa4, sa5, sa6, sa7, sa8, sa9⟩, ⟨sb0, sb1, sb2, sb3, sb4, sb5, sb6, sb7, sb8, sb9⟩, sc1, sc2⟩ := hSw; go_simp) <;> (with_reducible rfl)
      try simp only [Act.put, List.setIfInBounds_toArray, List.set_cons_zero, List.set_cons_succ]
      refine wpAnyH_take (i := 7) (oi := ⟨some 92, _, _, _, _, _⟩) (v := ?_) rfl (by kernel_rfl) (by kernel_rfl) (by kernel_rfl) (fun _ _ _ h => h) (Or.inl ⟨by rfl, ?_⟩) (by assumption) ?_
      rotate_left 1
      · (intro w hSw; (try dsimp only at hSw); obtain ⟨⟨sa0, sa1, sa2, sa3, sa4, sa5, sa6, sa7, sa8, sa9⟩, ⟨sb0, sb1, sb2, sb3, sb4, sb5, sb6, sb7, sb8, sb9⟩, sc1, sc2⟩ := hSw; go_simp) <;> (with_reducible rfl)
      try simp only [Act.put, List.setIfInBounds_toArray, List.set_cons_zero, List.set_cons_succ]
      refine wpAnyH_take (i := 8) (oi := ⟨some 93, _, _, _, _, _⟩) (v := ?_) rfl (by kernel_rfl) (by kernel_rfl) (by kernel_rfl) (fun _ _ _ h => h) (Or.inl ⟨by rfl, ?_⟩) (by assumption) ?_
      rotate_left 1
      · (intro w hSw; (try dsimp only at hSw); obtain ⟨⟨sa0, sa1, sa2, sa3, sa4, sa5, sa6, sa7, sa8, sa9⟩, ⟨sb0, sb1, sb2, sb3, sb4, sb5, sb6, sb7, sb8, sb9⟩, sc1, sc2⟩ := hSw; go_simp) <;> (with_reducible rfl)
      try simp only [Act.put, List.setIfInBounds_toArray, List.set_cons_zero, List.set_cons_succ]
      refine wpAnyH_take (i := 9) (oi := ⟨some 94, _, _, _, _, _⟩) (v := ?_) rfl (by kernel_rfl) (by kernel_rfl) (by kernel_rfl) (fun _ _ _ h => h) (Or.inl ⟨by rfl, ?_⟩) (by assumption) ?_
      rotate_left 1
      · (intro w hSw; (try dsimp only at hSw); obtain ⟨⟨sa0, sa1, sa2, sa3, sa4, sa5, sa6, sa7, sa8, sa9⟩, ⟨sb0, sb1, sb2, sb3, sb4, sb5, sb6, sb7, sb8, sb9⟩, sc1, sc2⟩ := hSw; go_simp) <;> (with_reducible rfl)
      try simp only [Act.put, List.setIfInBounds_toArray, List.set_cons_zero, List.set_cons_succ]
      refine wpAnyH_take (i := 10) (oi := ⟨some 95, _, _, _, _, _⟩) (v := ?_) rfl (by kernel_rfl) (by kernel_rfl) (by kernel_rfl) (fun _ _ _ h => h) (Or.inl ⟨by rfl, ?_⟩) (by assumption) ?_
      rotate_left 1
      · (intro w hSw; (try dsimp only at hSw); obtain ⟨⟨sa0, sa1, sa2, sa3, sa4, sa5, sa6, sa7, sa8, sa9⟩, ⟨sb0, sb1, sb2, sb3, sb4, sb5, sb6, sb7, sb8, sb9⟩, sc1, sc2⟩ := hSw; go_simp) <;> (with_reducible rfl)
      try simp only [Act.put, List.setIfInBounds_toArray, List.set_cons_zero, List.set_cons_succ]
      refine wpAnyH_take (i := 11) (oi := ⟨some 96, _, _, _, _, _⟩) (v := ?_) rfl (by kernel_rfl) (by kernel_rfl) (by kernel_rfl) (fun _ _ _ h => h) (Or.inl ⟨by rfl, ?_⟩) (by assumption) ?_
      rotate_left 1
      · (intro w hSw; (try dsimp only at hSw); obtain ⟨⟨sa0, sa1, sa2, sa3, sa4, sa5, sa6, sa7, sa8, sa9⟩, ⟨sb0, sb1, sb2, sb3, sb4, sb5, sb6, sb7, sb8, sb9⟩, sc1, sc2⟩ := hSw; go_simp) <;> (with_reducible rfl)
      try simp only [Act.put, List.setIfInBounds_toArray, List.set_cons_zero, List.set_cons_succ]
      refine wpAnyH_take (i := 12) (oi := ⟨some 97, _, _, _, _, _⟩) (v := ?_) rfl (by kernel_rfl) (by kernel_rfl) (by kernel_rfl) (fun _ _ _ h => h) (Or.inl ⟨by rfl, ?_⟩) (by assumption) ?_
      rotate_left 1
      · (intro w hSw; (try dsimp only at hSw); obtain ⟨⟨sa0, sa1, sa2, sa3, sa4, sa5, sa6, sa7, sa8, sa9⟩, ⟨sb0, sb1, sb2, sb3, sb4, sb5, sb6, sb7, sb8, sb9⟩, sc1, sc2⟩ := hSw; go_simp) <;> (with_reducible rfl)
      try simp only [Act.put, List.setIfInBounds_toArray, List.set_cons_zero, List.set_cons_succ]
      refine wpAnyH_take (i := 13) (oi := ⟨some 98, _, _, _, _, _⟩) (v := ?_) rfl (by kernel_rfl) (by kernel_rfl) (by kernel_rfl) (fun _ _ _ h => h) (Or.inl ⟨by rfl, ?_⟩) (by assumption) ?_
      rotate_left 1
      · (intro w hSw; (try dsimp only at hSw); obtain ⟨⟨sa0, sa1, sa2, sa3, sa4, sa5, sa6, sa7, sa8, sa9⟩, ⟨sb0, sb1, sb2, sb3, sb4, sb5, sb6, sb7, sb8, sb9⟩, sc1, sc2⟩ := hSw; go_simp) <;> (with_reducible rfl)
      try simp only [Act.put, List.setIfInBounds_toArray, List.set_cons_zero, List.set_cons_succ]
      refine wpAnyH_ready (rs := [14]) (by kernel_rfl) (by simp) ?_
      refine AllReadyH.cons (o := ⟨some 99, _, _, _, _, _⟩) rfl (fun K hK => ?_) AllReadyH.nil
      go_simp
      go_at_call 16
      refine (HSAM.out _ ((Fr.refl _ _).drew)).mono ?_
      rintro e w13 ⟨rfl, hf13⟩
      have HF13 := Lib.hid (((Fr.refl NoBlk w12).drew).trans hf13)
      clear hf13
      clear hHeld
      refine hK.out _ _ ?_ (fun hHeld => ?_)
      · exact sOf.out _ HF13.out
      clear hK K
      try simp only [Act.put, List.setIfInBounds_toArray, List.set_cons_zero, List.set_cons_succ]
      refine wpAnyH_take (i := 15) (oi := ⟨some 100, _, _, _, _, _⟩) (v := ?_) rfl (by kernel_rfl) (by kernel_rfl) (by kernel_rfl) (fun _ _ _ h => h) (Or.inl ⟨by rfl, ?_⟩) (by assumption) ?_
      rotate_left 1
      · (intro w hSw; (try dsimp only at hSw); obtain ⟨⟨sa0, sa1, sa2, sa3, sa4, sa5, sa6, sa7, sa8, sa9⟩, ⟨sb0, sb1, sb2, sb3, sb4, sb5, sb6, sb7, sb8, sb9⟩, sc1, sc2⟩ := hSw; go_simp) <;> (with_reducible rfl)
      try simp only [Act.put, List.setIfInBounds_toArray, List.set_cons_zero, List.set_cons_succ]
      refine wpAnyH_take (i := 16) (oi := ⟨some 101, _, _, _, _, _⟩) (v := ?_) rfl (by kernel_rfl) (by kernel_rfl) (by kernel_rfl) (fun _ _ _ h => h) (Or.inl ⟨by rfl, ?_⟩) (by assumption) ?_
      rotate_left 1
      · (intro w hSw; (try dsimp only at hSw); obtain ⟨⟨sa0, sa1, sa2, sa3, sa4, sa5, sa6, sa7, sa8, sa9⟩, ⟨sb0, sb1, sb2, sb3, sb4, sb5, sb6, sb7, sb8, sb9⟩, sc1, sc2⟩ := hSw; go_simp) <;> (with_reducible rfl)
      try simp only [Act.put, List.setIfInBounds_toArray, List.set_cons_zero, List.set_cons_succ]
      refine wpAnyH_take (i := 17) (oi := ⟨some 4, _, _, _, _, _⟩) (v := ?_) rfl (by kernel_rfl) (by kernel_rfl) (by kernel_rfl) (fun _ _ _ h => h) (Or.inl ⟨by rfl, ?_⟩) (by assumption) ?_
      rotate_left 1
      · (intro w hSw; (try dsimp only at hSw); obtain ⟨⟨sa0, sa1, sa2, sa3, sa4, sa5, sa6, sa7, sa8, sa9⟩, ⟨sb0, sb1, sb2, sb3, sb4, sb5, sb6, sb7, sb8, sb9⟩, sc1, sc2⟩ := hSw; go_simp) <;> (with_reducible rfl)
      try simp only [Act.put, List.setIfInBounds_toArray, List.set_cons_zero, List.set_cons_succ]
      refine wpAnyH_done (by kernel_rfl) ?_ _
      go_wp2_with fail
      go_ret
      exact ⟨rfl, HF12.out.trans HF13.out⟩


theorem paramsOk : ∀ t ∈ Try.f4.params.toList, Try.prog.readableRec t = true ∧ t < Try.prog.types.size := fun t ht => by
  have h := List.all_eq_true.1 (show (Try.f4.params.toList.all fun t => Try.prog.readableRec t && decide (t < Try.prog.types.size)) = true by kernel_rfl) t ht
  simpa using h

set_option maxRecDepth 100000 in
theorem lifted (os : Os) (started : os.Started) (H : Type) (enc : TypeId × Value → H) :
    ReturnsInHanded {} Try.checked os 4 .any (Rows.orderApartSpec.pre6 enc Try.prog Try.f4 Rows.orderApartRow.domain false) (Rows.orderApartSpec.post enc Try.prog Try.f4 false true false false) := by
  refine returnsInHanded_of_change (C := Try.checked) own started (by kernel_rfl) Try.func4
    (ChangeSpec.witness6 (enc := enc) (C := Try.checked) false ⟨#[], #[.agg #[.int .i64 0, .int .u64 0, .int .u64 0, .int .i64 0, .int .i64 0, .slice none 0 0, .slice none 0 0, .slice none 0 0, .int .i64 0, .slice none 0 0], .agg #[.int .i64 0, .int .u64 0, .int .u64 0, .int .i64 0, .int .i64 0, .slice none 0 0, .slice none 0 0, .slice none 0 0, .int .i64 0, .slice none 0 0]], []⟩ 8 (by kernel_rfl) (by kernel_rfl) (by kernel_rfl) (by kernel_rfl)) ?_
  intro W base args ds gs before hval0 hW _ _
  have hval : ∀ (j : Nat) t v, Try.f4.params[j]? = some t → args[j]? = some v → Value.okWide Try.prog W .any base t v := hval0
  have hW' := hW
  obtain ⟨p, q, hA0, hV, rfl, _, _⟩ := hW
  have hA : DataW.TrodAll enc Try.prog W 0 (fun _ => true) true Try.f4.params.toList args.toList ds p := hA0
  rw [Try.params4] at hA hval
  obtain ⟨v0, vs0, d0, ds0, p0, q0, hargs, rfl, rfl, h0, r0⟩ := trodAll_cons hA
  obtain ⟨v1, vs1, d1, ds1, p1, q1, rfl, rfl, rfl, h1, r1⟩ := trodAll_cons r0
  obtain ⟨rfl, rfl, rfl⟩ := trodAll_nil r1
  obtain rfl : args = #[v0, v1] := by cases args; simp_all
  obtain ⟨rfl, rfl⟩ := trodVars_none hV
  obtain ⟨a, rfl, ha, na⟩ := open_order (hval 0 _ v0 rfl rfl) h0
  obtain ⟨b, rfl, hb, nb⟩ := open_order (hval 1 _ v1 rfl rfl) h1
  have walk := walk W a b ha hb na nb
  clear hA0 hval0
  refine walk.mono fun e W' ⟨he, hf⟩ => ?_
  subst he
  exact ⟨_, rfl, law_post laidOut paramsOk rfl rfl Try.underlying4 hW' rfl rfl rfl hf⟩

theorem said : Rows.OrderApartSaid :=
  OpenClaim.holds_of_wide 4 Try.f4 rfl rfl rfl rfl rfl rfl rfl ⟨rfl, rfl, rfl, rfl, rfl⟩ rfl rfl rfl rfl rfl (by kernel_rfl) Try.func4 (by kernel_rfl)
    (of_decide_eq_true (by kernel_rfl)) (by unfold Func.isWrapper; first | (rw [if_pos (by decide +kernel)]; kernel_rfl) | (rw [if_neg (by decide +kernel)]; exact ⟨rfl, rfl⟩))
    (fun os started H enc _ => lifted os started H enc)
end Go.Proofs.Ytakbjjohfcgaoaa.orderApart
