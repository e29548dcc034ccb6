/- The document's Pieces of layer 15: the pieces of a log, one behind the other, with the log's own orders. Conditions: few orders, few marks. -/
import Derived.Test.YtdgjjkmgdjiliaaAppW
import Derived.Test.YtdgjjkmgdjiliaaPie
import Derived.Test.YtdgjjkmgdjiliaaLst14
namespace Go.Proofs.Ytdgjjkmgdjiliaa
open Go.RowKit Go.Maps

/-- pieces as items, with the log's own orders. -/
def pim (p : Pc) : Im := ⟨2, p.1, p.2⟩
def itsP (ps : List Pc) : List Value := imsc (ps.map pim)
theorem itsP_add (ps qs : List Pc) : itsP (ps ++ qs) = itsP ps ++ itsP qs := by unfold itsP imsc; rw [List.map_append, List.flatMap_append]
theorem imsc_one (xs : List Im) : ∀ u ∈ imsc xs, u.oneCell' = true := by
  intro u hu
  simp only [imsc, List.mem_flatMap, imc, ima, List.mem_cons, List.not_mem_nil, or_false] at hu
  obtain ⟨x, _, rfl | rfl | rfl | rfl | rfl | rfl | rfl | rfl | rfl | rfl | rfl | rfl⟩ := hu <;> rfl
theorem itemInfo : (Try.prog.info? 40).map (fun i => (i.zero, i.size, i.bytes)) = some (some (.agg #[.int .i64 0, .int .i64 0, .int .i64 0, .int .u64 0, .int .u64 0, .int .i64 0, .int .i64 0, .slice none 0 0, .slice none 0 0, .slice none 0 0, .int .i64 0, .slice none 0 0]), 12, 160) := by kernel_rfl
/-- the log as its pieces' contracts take it. -/
def LogIn (w : World) (A : Option Addr) (xs : List Od) : Prop := Rd w A (odsc xs) ∧ (∀ o ∈ xs, OdIn w o ∧ o.marks.length ≤ 1000 ∧ TgOk (tgOf o)) ∧ xs.length ≤ 40
theorem LogIn.nofr {w w' : World} {A : Option Addr} {xs : List Od} (h : LogIn w A xs) (hf : Fr NoBlk w w') : LogIn w' A xs := ⟨h.1.nofr hf, fun o ho => ⟨(h.2.1 o ho).1.nofr hf, (h.2.1 o ho).2⟩, h.2.2⟩

set_option maxRecDepth 100000 in
set_option maxHeartbeats 2000000 in
theorem dpieces_any (w : World) (A : Option Addr) (c : Nat) (xs : List Od) (rg : Int) (hL : LogIn w A xs) :
    Calls Try.prog 36 #[.slice A xs.length c, .int .i64 rg] w fun e w' => ∃ A' c', e = .returned (.slice A' (pcs rg xs xs.length).length c') ∧ w'.ownsRow w.heap.size 40 12 (.slice A' (pcs rg xs xs.length).length c') (pcs rg xs xs.length).length (itsP (pcs rg xs xs.length)) ∧ Fr NoBlk w w' := by
  obtain ⟨i0, hi, hz0, hz1, hz2⟩ := info_partsR itemInfo
  have HL := Lib.hid hL
  have h40 := hL.2.2
  clear hL
  have HO0 : Hid ((w.alloc (.cells #[] 40)).ownsRow w.heap.size 40 12 (.slice (some ⟨w.heap.size, 0, none⟩) 0 0) 0 []) := own_litW 12 (Bk.new _ _ _) (Nat.le_refl _)
  have HF0 : Hid (Fr NoBlk w (w.alloc (.cells #[] 40))) := (Fr.refl _ _).alloc _
  go_enter Try.func36, Try.ntmps36
  go_wp2_with fail
  go_loopw [5, 6] (fun out z wr => ∃ (k m : Nat) (A' : Option Addr) (c' : Nat), k ≤ xs.length ∧ out = .slice A' m c' ∧ z = .int .i64 k ∧ Hid (m = (pcs rg xs k).length) ∧ Hid (Fr NoBlk w wr ∧ wr.ownsRow w.heap.size 40 12 (.slice A' m c') m (itsP (pcs rg xs k)))) (fun _ z _ => xs.length - (intOf z).toNat)
  case atStart => exact ⟨0, 0, _, _, Nat.zero_le _, rfl, rfl, rfl, HF0.out, HO0.out⟩
  case round =>
    obtain ⟨k, m, A', c', hk, rfl, rfl, HM, HX⟩ := hrel
    by_cases hlt : k < xs.length
    · obtain ⟨o, ho⟩ : ∃ o, xs[k]? = some o := ⟨_, List.getElem?_eq_getElem hlt⟩
      have HLr := Lib.hid (HL.out.nofr HX.out.1)
      have HOK := Lib.hid (HLr.out.2.1 o (List.mem_of_getElem? ho))
      have HFI := Lib.hid (dfirst_any wr A c xs HLr.out.1 h40 k o ho fun j p _ hp => ⟨(HLr.out.2.1 p (List.mem_of_getElem? hp)).1, (HLr.out.2.1 p (List.mem_of_getElem? hp)).2.1⟩)
      obtain ⟨fb, hfb⟩ : ∃ fb, fb = firstAt xs k o := ⟨_, rfl⟩
      obtain ⟨hr, hhr⟩ : ∃ hr, hr = (homesOf o.marks).contains rg := ⟨_, rfl⟩
      rw [← hfb] at HFI
      have HFB := Lib.hid hfb
      have HHR := Lib.hid hhr
      have HO := Lib.hid ho
      have i1 : (0 : Int) ≤ (k : Int) := by omega
      have i2 : (k : Int) < (xs.length : Int) := by omega
      clear ho hfb hhr
      go_wp2_with fail
      refine HFI.out.mono ?_
      clear HFI
      rintro e w1 ⟨rfl, hf1⟩
      have HF1 := Lib.hid hf1
      clear hf1
      cases fb with
      | false =>
        have HNX := Lib.hid (pcs_no HO.out (show takeB rg xs k o = false by unfold takeB; rw [← HFB.out]; rfl))
        go_wp2_with fail
        go_roundw
        case rel => exact ⟨k + 1, m, A', c', by omega, rfl, by go_num, by rw [HNX.out]; exact HM, by rw [HNX.out]; exact ⟨HX.out.1.trans HF1.out, own_fr HX.out.2 HF1.out fun _ _ h => h⟩⟩
        case measure => simp [intOf]; omega
      | true =>
        obtain ⟨Bx, O, hA, hc⟩ := (HLr.out.nofr HF1.out).1.ord HO.out
        have c0 : w1.cell? ⟨Bx, O + k * 10, none⟩ = some (.int .i64 o.node) := hc 0 _ rfl
        have c1 : w1.cell? ⟨Bx, O + k * 10 + 1, none⟩ = some (.int .u64 (o.epoch : Int)) := hc 1 _ rfl
        have c2 : w1.cell? ⟨Bx, O + k * 10 + 2, none⟩ = some (.int .u64 (o.seq : Int)) := hc 2 _ rfl
        have c3 : w1.cell? ⟨Bx, O + k * 10 + 3, none⟩ = some (.int .i64 o.tr) := hc 3 _ rfl
        have c4 : w1.cell? ⟨Bx, O + k * 10 + 4, none⟩ = some (.int .i64 o.t.kind) := hc 4 _ rfl
        have c5 : w1.cell? ⟨Bx, O + k * 10 + 5, none⟩ = some (.slice o.t.ra o.t.reads.length o.t.rc) := hc 5 _ rfl
        have c6 : w1.cell? ⟨Bx, O + k * 10 + 6, none⟩ = some (.slice o.t.wa o.t.writes.length o.t.wc) := hc 6 _ rfl
        have c7 : w1.cell? ⟨Bx, O + k * 10 + 7, none⟩ = some (.slice o.t.oa o.t.ops.length o.t.oc) := hc 7 _ rfl
        have c8 : w1.cell? ⟨Bx, O + k * 10 + 8, none⟩ = some (.int .i64 o.t.to) := hc 8 _ rfl
        have c9 : w1.cell? ⟨Bx, O + k * 10 + 9, none⟩ = some (.slice o.ma o.marks.length o.mc) := hc 9 _ rfl
        subst hA
        have HHI := Lib.hid (dhomein_any w1 o (HOK.out.1.nofr HF1.out) HOK.out.2.1 rg)
        rw [← HHR.out] at HHI
        unfold odv oda at HHI
        clear hc
        go_wp2_with fail
        refine HHI.out.mono ?_
        clear HHI c0 c1 c2 c3 c4 c5 c6 c7 c8 c9
        rintro e w2 ⟨rfl, hf2⟩
        have HF2 := Lib.hid (HF1.out.trans hf2)
        clear hf2 HF1
        cases hr with
        | false =>
          have HNX := Lib.hid (pcs_no HO.out (show takeB rg xs k o = false by unfold takeB; rw [← HFB.out, ← HHR.out]; rfl))
          go_wp2_with fail
          go_roundw
          case rel => exact ⟨k + 1, m, A', c', by omega, rfl, by go_num, by rw [HNX.out]; exact HM, by rw [HNX.out]; exact ⟨HX.out.1.trans HF2.out, own_fr HX.out.2 HF2.out fun _ _ h => h⟩⟩
          case measure => simp [intOf]; omega
        | true =>
          have HNX := Lib.hid (pcs_yes HO.out (show takeB rg xs k o = true by unfold takeB; rw [← HFB.out, ← HHR.out]; rfl))
          obtain ⟨B2, O2, e2, hc⟩ := (HLr.out.nofr HF2.out).1.ord HO.out
          injection e2 with e2
          injection e2 with e2 e2' e2''
          subst e2 e2'
          have c0 : w2.cell? ⟨Bx, O + k * 10, none⟩ = some (.int .i64 o.node) := hc 0 _ rfl
          have c1 : w2.cell? ⟨Bx, O + k * 10 + 1, none⟩ = some (.int .u64 (o.epoch : Int)) := hc 1 _ rfl
          have c2 : w2.cell? ⟨Bx, O + k * 10 + 2, none⟩ = some (.int .u64 (o.seq : Int)) := hc 2 _ rfl
          have c3 : w2.cell? ⟨Bx, O + k * 10 + 3, none⟩ = some (.int .i64 o.tr) := hc 3 _ rfl
          have c4 : w2.cell? ⟨Bx, O + k * 10 + 4, none⟩ = some (.int .i64 o.t.kind) := hc 4 _ rfl
          have c5 : w2.cell? ⟨Bx, O + k * 10 + 5, none⟩ = some (.slice o.t.ra o.t.reads.length o.t.rc) := hc 5 _ rfl
          have c6 : w2.cell? ⟨Bx, O + k * 10 + 6, none⟩ = some (.slice o.t.wa o.t.writes.length o.t.wc) := hc 6 _ rfl
          have c7 : w2.cell? ⟨Bx, O + k * 10 + 7, none⟩ = some (.slice o.t.oa o.t.ops.length o.t.oc) := hc 7 _ rfl
          have c8 : w2.cell? ⟨Bx, O + k * 10 + 8, none⟩ = some (.int .i64 o.t.to) := hc 8 _ rfl
          have c9 : w2.cell? ⟨Bx, O + k * 10 + 9, none⟩ = some (.slice o.ma o.marks.length o.mc) := hc 9 _ rfl
          clear hc e2''
          have HO6 : Hid ((w2.alloc (.cells #[.int .i64 2, .int .i64 (k : Int), .int .i64 o.node, .int .u64 (o.epoch : Int), .int .u64 (o.seq : Int), .int .i64 o.tr, .int .i64 o.t.kind, .slice o.t.ra o.t.reads.length o.t.rc, .slice o.t.wa o.t.writes.length o.t.wc, .slice o.t.oa o.t.ops.length o.t.oc, .int .i64 o.t.to, .slice o.ma o.marks.length o.mc] 40)).ownsRow w.heap.size 40 12 (.slice A' m c') m (itsP (pcs rg xs k))) := own_fr HX.out.2 (HF2.out.alloc _) fun _ _ h => h
          have HF6 : Hid (Fr NoBlk w (w2.alloc (.cells #[.int .i64 2, .int .i64 (k : Int), .int .i64 o.node, .int .u64 (o.epoch : Int), .int .u64 (o.seq : Int), .int .i64 o.tr, .int .i64 o.t.kind, .slice o.t.ra o.t.reads.length o.t.rc, .slice o.t.wa o.t.writes.length o.t.wc, .slice o.t.oa o.t.ops.length o.t.oc, .int .i64 o.t.to, .slice o.ma o.marks.length o.mc] 40))) := (HX.out.1.trans HF2.out).alloc _
          have HS6 : Hid (Rd (w2.alloc (.cells #[.int .i64 2, .int .i64 (k : Int), .int .i64 o.node, .int .u64 (o.epoch : Int), .int .u64 (o.seq : Int), .int .i64 o.tr, .int .i64 o.t.kind, .slice o.t.ra o.t.reads.length o.t.rc, .slice o.t.wa o.t.writes.length o.t.wc, .slice o.t.oa o.t.ops.length o.t.oc, .int .i64 o.t.to, .slice o.ma o.marks.length o.mc] 40)) (some ⟨w2.heap.size, 0, none⟩) [.int .i64 2, .int .i64 (k : Int), .int .i64 o.node, .int .u64 (o.epoch : Int), .int .u64 (o.seq : Int), .int .i64 o.tr, .int .i64 o.t.kind, .slice o.t.ra o.t.reads.length o.t.rc, .slice o.t.wa o.t.writes.length o.t.wc, .slice o.t.oa o.t.ops.length o.t.oc, .int .i64 o.t.to, .slice o.ma o.marks.length o.mc]) := Rd.of_cells (Bk.new w2 40 #[.int .i64 2, .int .i64 (k : Int), .int .i64 o.node, .int .u64 (o.epoch : Int), .int .u64 (o.seq : Int), .int .i64 o.tr, .int .i64 o.t.kind, .slice o.t.ra o.t.reads.length o.t.rc, .slice o.t.wa o.t.writes.length o.t.wc, .slice o.t.oa o.t.ops.length o.t.oc, .int .i64 o.t.to, .slice o.ma o.marks.length o.mc])
          have HIN : Hid (itsP (pcs rg xs (k + 1)) = itsP (pcs rg xs k) ++ [.int .i64 2, .int .i64 (k : Int), .int .i64 o.node, .int .u64 (o.epoch : Int), .int .u64 (o.seq : Int), .int .i64 o.tr, .int .i64 o.t.kind, .slice o.t.ra o.t.reads.length o.t.rc, .slice o.t.wa o.t.writes.length o.t.wc, .slice o.t.oa o.t.ops.length o.t.oc, .int .i64 o.t.to, .slice o.ma o.marks.length o.mc]) := by show _ = _; rw [HNX.out, itsP_add]; rfl
          have HMN : Hid (m + 1 = (pcs rg xs (k + 1)).length) := by show _ = _; rw [HNX.out, List.length_append, ← HM.out]; rfl
          have HMK : Hid (m ≤ 40) := by show _ ≤ _; have := pcs_len rg xs k; have := HM.out; omega
          have HON : Hid (∀ u ∈ ([.int .i64 2, .int .i64 (k : Int), .int .i64 o.node, .int .u64 (o.epoch : Int), .int .u64 (o.seq : Int), .int .i64 o.tr, .int .i64 o.t.kind, .slice o.t.ra o.t.reads.length o.t.rc, .slice o.t.wa o.t.writes.length o.t.wc, .slice o.t.oa o.t.ops.length o.t.oc, .int .i64 o.t.to, .slice o.ma o.marks.length o.mc] : List Value), u.oneCell' = true) := imsc_one [⟨2, k, o⟩]
          clear HNX
          go_wp2_with (first | (at_builtin; go_loud (refine wpList_appW rfl _ _ 22 rfl w.heap.size 40 i0 _ 12 160 Try.underlying22 hi hz0 hz1 hz2 rfl (by decide) (.slice A' m c') m (itsP (pcs rg xs k)) rfl HO6.out (some ⟨w2.heap.size, 0, none⟩) 1 1 [.int .i64 2, .int .i64 (k : Int), .int .i64 o.node, .int .u64 (o.epoch : Int), .int .u64 (o.seq : Int), .int .i64 o.tr, .int .i64 o.t.kind, .slice o.t.ra o.t.reads.length o.t.rc, .slice o.t.wa o.t.writes.length o.t.wc, .slice o.t.oa o.t.ops.length o.t.oc, .int .i64 o.t.to, .slice o.ma o.marks.length o.mc] rfl rfl HS6.out HON.out (fun h => by cases h) (by unfold maxLen; have := HMK.out; omega) (by have := HMK.out; omega) HF6.out.size ?_); intro v7 w7 ho7 hg7 hb7; rw [← HIN.out] at ho7; obtain ⟨A7, c7, rfl, hc7, hA7⟩ := own_form ho7; have HO7 := Lib.hid ho7; have HF7 := Lib.hid (grown_no HF6.out HO6.out hg7); clear ho7 hg7 hb7 hA7) | fail)
          go_roundw
          case rel => exact ⟨k + 1, m + 1, A7, c7, by omega, rfl, by go_num, HMN, HF7.out, HO7.out⟩
          case measure => simp [intOf]; omega
    · have hkn : k = xs.length := by omega
      have HZ : Hid (m = (pcs rg xs xs.length).length ∧ Fr NoBlk w wr ∧ wr.ownsRow w.heap.size 40 12 (.slice A' m c') m (itsP (pcs rg xs xs.length))) := by
        rw [← hkn]
        exact ⟨HM.out, HX.out⟩
      have i3 : (xs.length : Int) ≤ (k : Int) := by omega
      clear hkn HX HM
      go_wp2_with fail
      go_ret
      obtain ⟨h1, h2, h3⟩ := HZ.out
      rw [← h1]
      exact ⟨A', c', rfl, h3, h2⟩
end Go.Proofs.Ytdgjjkmgdjiliaa
