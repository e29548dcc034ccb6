/- SplitParts is true: which marks of an order are for a region is told exactly; over all regions each mark is told once. No condition. -/
import Derived.Test.YtdgjjkmgdjiliaaLawp
import Derived.Test.YtdgjjkmgdjiliaaSpk15
import Derived.Test.YtdgjjkmgdjiliaaPrt
import Derived.Test.YtdgjjkmgdjiliaaDPrt
import Derived.Test.YtdgjjkmgdjiliaaMSame
import Derived.Test.YtdgjjkmgdjiliaaClone
import Derived.Test.YtdgjjkmgdjiliaaOpenF
namespace Go.Proofs.Ytdgjjkmgdjiliaa.splitParts
open Go.ChangeShapes Go.WideShapes Go.ChangeAt Go.RowKit Go.Maps Go.WideMaps Go.WideElems

/-- how many marks are for the first h regions. -/
def cntP (ms : List Mk) : Nat → Nat
  | 0 => 0
  | h + 1 => cntP ms h + (prt (h : Int) ms ms.length).length
theorem cntP_le (ms : List Mk) (h : Nat) : cntP ms h ≤ h * ms.length := by
  induction h with
  | zero => exact Nat.zero_le _
  | succ h ih =>
    have := prt_len (h : Int) ms ms.length
    rw [Nat.succ_mul]
    show cntP ms h + _ ≤ _
    omega
theorem prt_all (rg : Int) (ms : List Mk) : prt rg ms ms.length = ms.filter fun m => decide (m.home = rg) := by unfold prt; rw [List.take_length]
theorem cntP_all (ms : List Mk) (h : ∀ m ∈ ms, 0 ≤ m.home ∧ m.home < 3) : cntP ms 3 = ms.length := by
  show 0 + (prt ((0 : Nat) : Int) ms ms.length).length + (prt ((1 : Nat) : Int) ms ms.length).length + (prt ((2 : Nat) : Int) ms ms.length).length = _
  rw [prt_all, prt_all, prt_all]
  induction ms with
  | nil => rfl
  | cons m l ih =>
    have h1 := h m (List.mem_cons_self ..)
    have h2 := ih fun x hx => h x (List.mem_cons_of_mem _ hx)
    simp only [List.filter_cons, List.length_cons]
    have h3 : m.home = 0 ∨ m.home = 1 ∨ m.home = 2 := by omega
    rcases h3 with e | e | e <;> rw [e] <;> simp <;> simp at h2 <;> omega
/-- are the first n marks' homes regions? -/
def allP (ms : List Mk) (n : Nat) : Bool := (ms.take n).all fun m => decide (0 ≤ m.home) && decide (m.home < 3)
theorem allP_next {ms : List Mk} {n : Nat} {x : Mk} (h : ms[n]? = some x) : allP ms (n + 1) = (allP ms n && (decide (0 ≤ x.home) && decide (x.home < 3))) := by
  unfold allP
  rw [List.take_add_one, h, List.all_append]
  simp
theorem allP_all {ms : List Mk} (h : allP ms ms.length = true) : cntP ms 3 = ms.length := by
  refine cntP_all ms fun m hm => ?_
  unfold allP at h
  rw [List.take_length, List.all_eq_true] at h
  simpa using h m hm

theorem own_cap {w : World} {base n c size : Nat} {e : TypeId} {A : Option Addr} {xs : List Value} (h : w.ownsRow base e size (.slice A n c) n xs) : n ≤ c := by
  obtain ⟨A', c', e1, h1, _⟩ := own_form h
  injection e1 with _ _ e1
  omega
theorem own_fsh {w : World} {base n c size : Nat} {e : TypeId} {A : Option Addr} {xs : List Value} (h : w.ownsRow base e size (.slice A n c) n xs) : Fsh w base A (n * size) e := fun hp => by
  rcases h.2 with ⟨_, rfl⟩ | ⟨g, cap, cur, hv, hb, hh, hle, _, hs, _⟩
  · omega
  · injection hv with h1 _ h2
    exact ⟨g, cur, h1, hb, hh, by rw [hs]; exact Nat.mul_le_mul_right _ hle⟩

set_option maxRecDepth 100000 in
theorem open_order {H : Type} {enc : TypeId × Value → H} {W : World} {r : Reach} {base : Nat} {v : Value} {d : DataW H} {p : List MemPlace}
    (hv : Value.okWide Try.prog W r base 38 v) (hd : DataW.Trod enc Try.prog W 0 (fun _ => true) true 38 v d p) :
    ∃ o : Od, v = odv o ∧ OdIn W o := by
  have k : Try.prog.cellsOf 38 = 10 := by kernel_rfl
  obtain ⟨cs, rfl, hsz⟩ := okWide_struct Try.underlying38 hv
  obtain ⟨fuel, hf⟩ := hd
  obtain ⟨o, ho, hi, _⟩ := order_of_cells (cs := cs.toList) (by rw [Array.length_toList, hsz, k]) hf
  refine ⟨o, ?_, hi⟩
  unfold odv
  rw [← Array.toList_inj.1 ho]

set_option maxRecDepth 100000 in
set_option maxHeartbeats 2000000 in
theorem walk (w : World) (o : Od) (rg : Int) (ho : OdIn w o) : Calls Try.prog 8 #[odv o, .int .i64 rg] w fun e w' => e = .returned (.bool true) ∧ Fr NoBlk w w' := by
  have HO := Lib.hid ho
  have HF0 : Hid (Fr NoBlk w (w.alloc (.cells (oda o) 38))) := (Fr.refl _ _).alloc _
  have HB0 := Lib.hid (Bk.new w 38 (oda o))
  clear ho
  unfold oda at HF0
  unfold odv oda
  go_enter Try.func8, Try.ntmps8
  go_wp2_with fail
  refine (speaks15_any _).mono ?_
  rintro e w1 ⟨rfl, hf1⟩
  have HF1 := Lib.hid (HF0.out.trans hf1)
  have HB1 := Lib.hid (HB0.out.fr hf1 (fun h => h))
  clear hf1 HF0 HB0
  obtain ⟨c0, c1, c2, c3, c4, c5, c6, c7, c8, c9⟩ := HB1.out.ord
  go_wp2_with fail
  refine (ogreat_any w1 o (HO.out.nofr HF1.out)).mono ?_
  rintro e w2 ⟨⟨bb, rfl, hsm⟩, hf2⟩
  have HF2 := Lib.hid (HF1.out.trans hf2)
  have HB2 := Lib.hid (HB1.out.fr hf2 (fun h => h))
  have HSM := Lib.hid hsm
  clear c0 c1 c2 c3 c4 c5 c6 c7 c8 c9 hf2 HB1 HF1 hsm
  cases bb
  rotate_left
  · go_wp2_with fail
    go_ret
    exact ⟨rfl, HF2.out⟩
  have HS := Lib.hid (HSM.out rfl)
  clear HSM
  obtain ⟨c0, c1, c2, c3, c4, c5, c6, c7, c8, c9⟩ := HB2.out.ord
  go_wp2_with fail
  refine (ocopy_any w2 o (HO.out.nofr HF2.out) HS.out).mono ?_
  rintro e w3 ⟨b, rfl, hcp⟩
  have HLK := Lib.hid hcp.like
  have HWB := Lib.hid ((Fr.refl NoBlk w3).alloc (.cells (oda b) 38))
  have HFC := Lib.hid ((HF2.out.trans hcp.fr).trans HWB.out)
  have HBC := Lib.hid ((HB2.out.fr hcp.fr (fun h => h)).fr HWB.out (fun h => h))
  have HDC := Lib.hid (Bk.new w3 38 (oda b))
  have HBI := Lib.hid (hcp.inn.nofr HWB.out)
  obtain ⟨gc, hgc⟩ : ∃ gc, gc = w3.heap.size := ⟨_, rfl⟩
  have HGC := Lib.hid hgc
  clear c0 c1 c2 c3 c4 c5 c6 c7 c8 c9 hcp hgc HB2 HF2
  unfold odv
  unfold oda at HWB HFC HBC HDC HBI ⊢
  obtain ⟨d0, d1, d2, d3, d4, d5, d6, d7, d8, d9⟩ := HDC.out.ord
  go_wp2_with fail
  rw [← HGC.out] at HDC ⊢
  generalize hW : w3.alloc _ = wc at *
  clear hW d0 d1 d2 d3 d4 d5 d6 d7 d8 d9 HWB
  have HSB := Lib.hid (HLK.out.small HS.out)
  have hom : o.marks.length ≤ 60 := HS.out.m
  have HPA : Hid (∀ (W : World) (h : Int), Fr NoBlk wc W → Calls Try.prog 31 #[odv b, .int .i64 h] W fun e w' => ∃ A' c', e = .returned (.slice A' (prt h o.marks o.marks.length).length c') ∧ w'.ownsRow W.heap.size 63 3 (.slice A' (prt h o.marks o.marks.length).length c') (prt h o.marks o.marks.length).length (mksc (prt h o.marks o.marks.length)) ∧ Fr NoBlk W w') := fun W h hf => by
    have q := spart_any W b (HBI.out.nofr hf) (by have := HSB.out.m; omega) h
    rw [HLK.out.marks] at q
    exact q
  have HDP : Hid (∀ (W : World), Fr NoBlk wc W → Calls Try.prog 33 #[odv o, .int .i64 rg] W fun e w' => ∃ A' c', e = .returned (.slice A' (prt rg o.marks o.marks.length).length c') ∧ w'.ownsRow W.heap.size 63 3 (.slice A' (prt rg o.marks o.marks.length).length c') (prt rg o.marks o.marks.length).length (mksc (prt rg o.marks o.marks.length)) ∧ Fr NoBlk W w') := fun W hf =>
    dpart_any W o (HO.out.nofr (HFC.out.trans hf)) (by omega) rg
  have HSA : Hid (∀ (W : World), OdIn W b → OdIn W o → Calls Try.prog 34 #[odv b, odv o] W fun e w' => e = .returned (.bool true) ∧ Fr NoBlk W w') := fun W h1 h2 => by
    have q := osame_any W b o h1 h2 HSB.out HS.out
    rw [(orderSame_iff b o).2 HLK.out] at q
    exact q
  unfold odv oda at HPA HDP HSA
  have HL := Lib.hid hom
  clear hom
  have sOf : Hid (∀ W, Fr NoBlk wc W → _) := fun W hf => And.intro (HDC.out.fr hf (fun h => h)).ord (HBC.out.fr hf (fun h => h)).ord
  go_wp2_with fail
  go_loopw [6, 7] (fun nz z wr => ∃ h : Nat, h ≤ 3 ∧ z = .int .i64 h ∧ nz = .int .i64 (cntP o.marks h) ∧ Hid (Fr NoBlk wc wr)) (fun _ z _ => 3 - (intOf z).toNat)
  case atStart => exact ⟨0, by omega, rfl, rfl, Fr.refl _ _⟩
  case round =>
    obtain ⟨h, hh, rfl, rfl, HFW⟩ := hrel
    by_cases hlt : h < 3
    · have i1 : (h : Int) < 3 := by omega
      obtain ⟨⟨d0, d1, d2, d3, d4, d5, d6, d7, d8, d9⟩, _⟩ := sOf.out _ HFW.out
      obtain ⟨q, hq⟩ : ∃ q, q = cntP o.marks h := ⟨_, rfl⟩
      obtain ⟨p, hp⟩ : ∃ p, p = (prt (h : Int) o.marks o.marks.length).length := ⟨_, rfl⟩
      have hq2 : q ≤ 180 := by have := cntP_le o.marks h; have := HL.out; have : h * o.marks.length ≤ 3 * 60 := Nat.mul_le_mul hh this; omega
      have hp2 : p ≤ 60 := by have := prt_len (h : Int) o.marks o.marks.length; have := HL.out; omega
      have HNX : Hid (cntP o.marks (h + 1) = q + p) := by show _ = _; rw [hq, hp]; rfl
      have HPT := Lib.hid (HPA.out _ (h : Int) HFW.out)
      rw [← hp] at HPT
      rw [← hq]
      clear hq hp
      go_wp2_with fail
      refine HPT.out.mono ?_
      clear HPT
      rintro e w5 ⟨A5, k5, rfl, ho5, hf5⟩
      have HF5 := Lib.hid (HFW.out.trans hf5)
      clear ho5 hf5 d0 d1 d2 d3 d4 d5 d6 d7 d8 d9 HFW
      go_wp2_with fail
      go_roundw
      case rel => exact ⟨h + 1, by omega, by go_num, by rw [HNX.out]; go_num, HF5⟩
      case measure => simp [intOf]; omega
    have i1 : (3 : Int) ≤ (h : Int) := by omega
    obtain ⟨q, hq⟩ : ∃ q, q = cntP o.marks h := ⟨_, rfl⟩
    have HQ : Hid (q = cntP o.marks 3) := by show _ = _; rw [hq, show h = 3 by omega]
    have HFV := Lib.hid HFW.out
    have c9 : wr.cell? ⟨w.heap.size, 9, none⟩ = some (.slice o.ma o.marks.length o.mc) := (HBC.out.fr HFW.out (fun h => h)).cell 9
    rw [← hq]
    clear hq HFW hlt
    go_wp2_with fail
    go_loopw [8, 32] (fun az z wr => ∃ n : Nat, n ≤ o.marks.length ∧ z = .int .i64 n ∧ az = .bool (allP o.marks n) ∧ Hid (Fr NoBlk wc wr)) (fun _ z _ => o.marks.length - (intOf z).toNat)
    case atStart => exact ⟨0, by omega, rfl, rfl, HFV⟩
    case round =>
      clear c9 HFV
      obtain ⟨n, hn, rfl, rfl, HFW⟩ := hrel
      obtain ⟨al, hal⟩ : ∃ al, al = allP o.marks n := ⟨_, rfl⟩
      have hml : o.marks.length ≤ 60 := HL.out
      by_cases hlt : n < o.marks.length
      · obtain ⟨x, hx⟩ : ∃ x, o.marks[n]? = some x := ⟨_, List.getElem?_eq_getElem hlt⟩
        obtain ⟨b0, o0, hA, e0, e1, e2⟩ := (HO.out.marks.nofr (HFC.out.trans HFW.out)).mark hx
        have HNX : Hid (allP o.marks (n + 1) = (al && (decide (0 ≤ x.home) && decide (x.home < 3)))) := by show _ = _; rw [allP_next hx, hal]
        have i1 : (0 : Int) ≤ (n : Int) := by omega
        have i2 : (n : Int) < (o.marks.length : Int) := by omega
        rw [hA]
        rw [← hal]
        clear hA hx hal hlt
        cases al with
        | false =>
          have HN2 : Hid (allP o.marks (n + 1) = false) := HNX.out
          go_wp2_with fail
          go_roundw
          case rel => exact ⟨n + 1, by omega, by go_num, by rw [HN2.out], HFW.out.alloc _⟩
          case measure => simp [intOf]; omega
        | true =>
          by_cases h0 : 0 ≤ x.home
          · by_cases h3 : x.home < 3
            · have HN2 : Hid (allP o.marks (n + 1) = true) := by show _ = _; rw [HNX.out, decide_eq_true h0, decide_eq_true h3]; rfl
              go_wp2_with fail
              go_roundw
              case rel => exact ⟨n + 1, by omega, by go_num, by rw [HN2.out], HFW.out.alloc _⟩
              case measure => simp [intOf]; omega
            · have h3' : (3 : Int) ≤ x.home := by omega
              have HN2 : Hid (allP o.marks (n + 1) = false) := by show _ = _; rw [HNX.out, decide_eq_false h3, Bool.and_false, Bool.and_false]
              clear h3
              go_wp2_with fail
              go_roundw
              case rel => exact ⟨n + 1, by omega, by go_num, by rw [HN2.out, decide_eq_false (show ¬ x.home < 3 by omega)], HFW.out.alloc _⟩
              case measure => simp [intOf]; omega
          · have h0' : x.home < (0 : Int) := by omega
            have HN2 : Hid (allP o.marks (n + 1) = false) := by show _ = _; rw [HNX.out, decide_eq_false h0, Bool.false_and, Bool.and_false]
            clear h0
            go_wp2_with fail
            go_roundw
            case rel => exact ⟨n + 1, by omega, by go_num, by rw [HN2.out], HFW.out.alloc _⟩
            case measure => simp [intOf]; omega
      have i3 : (o.marks.length : Int) ≤ (n : Int) := by omega
      have HAL : Hid (al = allP o.marks o.marks.length) := by show _ = _; rw [hal, show n = o.marks.length by omega]
      obtain ⟨⟨d0, d1, d2, d3, d4, d5, d6, d7, d8, d9⟩, _⟩ := sOf.out _ HFW.out
      obtain ⟨N, hN⟩ : ∃ N, N = wr.heap.size := ⟨_, rfl⟩
      obtain ⟨m, hm⟩ : ∃ m, m = (prt rg o.marks o.marks.length).length := ⟨_, rfl⟩
      have hm2 : m ≤ 60 := by have := prt_len rg o.marks o.marks.length; have := HL.out; omega
      have HPT := Lib.hid (HPA.out _ rg HFW.out)
      have HNS : Hid (wc.heap.size ≤ N) := by show _ ≤ _; rw [hN]; exact HFW.out.size
      have HDP2 := HDP
      rw [← hm] at HDP2
      rw [← hm, ← hN] at HPT
      rw [← hal]
      have HM := Lib.hid hm
      clear hal hN hlt HDP hm
      go_wp2_with fail
      refine HPT.out.mono ?_
      clear HPT d0 d1 d2 d3 d4 d5 d6 d7 d8 d9
      rintro e w6 ⟨A6, k6, rfl, ho6, hf6⟩
      have HF6 := Lib.hid (HFW.out.trans hf6)
      have HO6 := Lib.hid ho6
      have hk6 : m ≤ k6 := own_cap ho6
      clear ho6 hf6 HFW
      obtain ⟨_, ⟨c0, c1, c2, c3, c4, c5, c6, c7, c8, c9⟩⟩ := sOf.out _ HF6.out
      go_wp2_with fail
      refine (HDP2.out _ HF6.out).mono ?_
      clear HDP2 c0 c1 c2 c3 c4 c5 c6 c7 c8 c9
      rintro e w7 ⟨A7, k7, rfl, ho7, hf7⟩
      have HO67 : Hid (w7.ownsRow N 63 3 (.slice A6 m k6) m (mksc (prt rg o.marks o.marks.length))) := own_fr HO6.out hf7 fun _ _ h => h
      have HF7 := Lib.hid (HF6.out.trans hf7)
      have HMS : Hid (Calls Try.prog 32 #[.slice A6 m k6, .slice A7 m k7] w7 fun e w' => e = .returned (.bool true) ∧ Fr NoBlk w7 w') := by
        have h := msame_any w7 A6 A7 k6 k7 _ _ (Rd.of_ownW HO67.out) (Rd.of_ownW ho7) (by have := HM.out; omega) (by have := HM.out; omega)
        rw [(marksSame_iff _ _).2 rfl, ← HM.out] at h
        exact h
      clear ho7 hf7 HO6 HF6
      go_wp2_with fail
      refine HMS.out.mono ?_
      clear HMS
      rintro e w8 ⟨rfl, hf8⟩
      have HF8 := Lib.hid (HF7.out.trans hf8)
      have HFS : Hid (Fsh w8 N A6 (m * 3) 63) := own_fsh (own_fr HO67.out hf8 fun _ _ h => h)
      clear hf8 HO67 HF7
      have c9 : w8.cell? ⟨w.heap.size, 9, none⟩ = some (.slice o.ma o.marks.length o.mc) := (HBC.out.fr HF8.out (fun h => h)).cell 9
      obtain ⟨ml, hml⟩ : ∃ ml, ml = o.marks.length := ⟨_, rfl⟩
      have HQE : Hid (al = true → ((q : Int) != (ml : Int)) = false) := fun h => by
        have h1 := allP_all (HAL.out.symm.trans h)
        rw [HQ.out, h1, hml]
        simp
      rw [← hml] at c9
      clear hml
      have HGO : Hid (∀ K : Prop, K → K) := fun _ h => h
      cases al with
      | false =>
        clear HQE c9 HGO
        go_wp2_with fail
        go_loopw [69] (fun z wr => ∃ i : Nat, i ≤ m ∧ z = .int .i64 i ∧ Hid (Fsh wr N A6 (m * 3) 63) ∧ Hid (Fr NoBlk wc wr)) (fun z _ => m - (intOf z).toNat)
        case atStart => exact ⟨0, by omega, rfl, HFS, HF8⟩
        case round =>
          clear HFS HF8
          obtain ⟨i, hi, rfl, HFS, HFW⟩ := hrel
          by_cases hlt : i < m
          · obtain ⟨gp, cs, rfl, hN, hb, hs⟩ := HFS.out (by omega)
            have v0 : wr.cell? ⟨gp, i * 3, none⟩ = some (cs[i * 3]'(by omega)) := by rw [hb.cell]; exact Array.getElem?_eq_getElem (by omega)
            have v1 : wr.cell? ⟨gp, i * 3 + 1, none⟩ = some (cs[i * 3 + 1]'(by omega)) := by rw [hb.cell]; exact Array.getElem?_eq_getElem (by omega)
            have v2 : wr.cell? ⟨gp, i * 3 + 2, none⟩ = some (cs[i * 3 + 2]'(by omega)) := by rw [hb.cell]; exact Array.getElem?_eq_getElem (by omega)
            have f0 := hb.free (i * 3)
            have f1 := hb.free (i * 3 + 1)
            have f2 := hb.free (i * 3 + 2)
            generalize cs[i * 3]'(by omega) = y0 at v0
            generalize cs[i * 3 + 1]'(by omega) = y1 at v1
            generalize cs[i * 3 + 2]'(by omega) = y2 at v2
            have hng : gp < wc.heap.size → False := fun h => by have := HNS.out; omega
            have HF2 := Lib.hid (((HFW.out.setCell (p := ⟨gp, i * 3, none⟩) (fun h => hng h) (.string ByteArray.empty)).setCell (p := ⟨gp, i * 3 + 1, none⟩) (fun h => hng h) (.int .i64 0)).setCell (p := ⟨gp, i * 3 + 2, none⟩) (fun h => hng h) (.int .u64 0))
            have HS2 := Lib.hid (((HFS.out.put ⟨gp, i * 3, none⟩ rfl (.string ByteArray.empty)).put ⟨gp, i * 3 + 1, none⟩ rfl (.int .i64 0)).put ⟨gp, i * 3 + 2, none⟩ rfl (.int .u64 0))
            have i1 : (0 : Int) ≤ (i : Int) := by omega
            have i2 : (i : Int) < (m : Int) := by omega
            clear hb hs hng hN HFS HFW hlt
            go_wp2_with fail
            go_roundw
            case rel => exact ⟨i + 1, by omega, by go_num, HS2, HF2⟩
            case measure => simp [intOf]; omega
          have i3 : (m : Int) ≤ (i : Int) := by omega
          obtain ⟨⟨d0, d1, d2, d3, d4, d5, d6, d7, d8, d9⟩, ⟨c0, c1, c2, c3, c4, c5, c6, c7, c8, c9⟩⟩ := sOf.out _ HFW.out
          have HSI := Lib.hid (HSA.out _ (HBI.out.nofr HFW.out) (HO.out.nofr (HFC.out.trans HFW.out)))
          go_wp2_with fail
          refine HSI.out.mono ?_
          rintro e w9 ⟨rfl, hf9⟩
          have HF9 := Lib.hid (HFC.out.trans (HFW.out.trans hf9))
          clear hf9 HSI
          go_wp2_with fail
          go_ret
          exact ⟨rfl, HF9.out⟩
      | true =>
        have q1 := HQE.out rfl
        clear HQE HGO
        go_wp2_with fail
        go_loopw [69] (fun z wr => ∃ i : Nat, i ≤ m ∧ z = .int .i64 i ∧ Hid (Fsh wr N A6 (m * 3) 63) ∧ Hid (Fr NoBlk wc wr)) (fun z _ => m - (intOf z).toNat)
        case atStart => exact ⟨0, by omega, rfl, HFS, HF8⟩
        case round =>
          clear HFS HF8
          obtain ⟨i, hi, rfl, HFS, HFW⟩ := hrel
          by_cases hlt : i < m
          · obtain ⟨gp, cs, rfl, hN, hb, hs⟩ := HFS.out (by omega)
            have v0 : wr.cell? ⟨gp, i * 3, none⟩ = some (cs[i * 3]'(by omega)) := by rw [hb.cell]; exact Array.getElem?_eq_getElem (by omega)
            have v1 : wr.cell? ⟨gp, i * 3 + 1, none⟩ = some (cs[i * 3 + 1]'(by omega)) := by rw [hb.cell]; exact Array.getElem?_eq_getElem (by omega)
            have v2 : wr.cell? ⟨gp, i * 3 + 2, none⟩ = some (cs[i * 3 + 2]'(by omega)) := by rw [hb.cell]; exact Array.getElem?_eq_getElem (by omega)
            have f0 := hb.free (i * 3)
            have f1 := hb.free (i * 3 + 1)
            have f2 := hb.free (i * 3 + 2)
            generalize cs[i * 3]'(by omega) = y0 at v0
            generalize cs[i * 3 + 1]'(by omega) = y1 at v1
            generalize cs[i * 3 + 2]'(by omega) = y2 at v2
            have hng : gp < wc.heap.size → False := fun h => by have := HNS.out; omega
            have HF2 := Lib.hid (((HFW.out.setCell (p := ⟨gp, i * 3, none⟩) (fun h => hng h) (.string ByteArray.empty)).setCell (p := ⟨gp, i * 3 + 1, none⟩) (fun h => hng h) (.int .i64 0)).setCell (p := ⟨gp, i * 3 + 2, none⟩) (fun h => hng h) (.int .u64 0))
            have HS2 := Lib.hid (((HFS.out.put ⟨gp, i * 3, none⟩ rfl (.string ByteArray.empty)).put ⟨gp, i * 3 + 1, none⟩ rfl (.int .i64 0)).put ⟨gp, i * 3 + 2, none⟩ rfl (.int .u64 0))
            have i1 : (0 : Int) ≤ (i : Int) := by omega
            have i2 : (i : Int) < (m : Int) := by omega
            clear hb hs hng hN HFS HFW hlt
            go_wp2_with fail
            go_roundw
            case rel => exact ⟨i + 1, by omega, by go_num, HS2, HF2⟩
            case measure => simp [intOf]; omega
          have i3 : (m : Int) ≤ (i : Int) := by omega
          obtain ⟨⟨d0, d1, d2, d3, d4, d5, d6, d7, d8, d9⟩, ⟨c0, c1, c2, c3, c4, c5, c6, c7, c8, c9⟩⟩ := sOf.out _ HFW.out
          have HSI := Lib.hid (HSA.out _ (HBI.out.nofr HFW.out) (HO.out.nofr (HFC.out.trans HFW.out)))
          go_wp2_with fail
          refine HSI.out.mono ?_
          rintro e w9 ⟨rfl, hf9⟩
          have HF9 := Lib.hid (HFC.out.trans (HFW.out.trans hf9))
          clear hf9 HSI
          go_wp2_with fail
          go_ret
          exact ⟨rfl, HF9.out⟩

theorem paramsOk : ∀ t ∈ Try.f8.params.toList, Try.prog.readableRec t = true ∧ t < Try.prog.types.size := fun t ht => by
  have h := List.all_eq_true.1 (show (Try.f8.params.toList.all fun t => Try.prog.readableRec t && decide (t < Try.prog.types.size)) = true by kernel_rfl) t ht
  simpa using h

set_option maxRecDepth 100000 in
theorem lifted (os : Os) (started : os.Started) (H : Type) (enc : TypeId × Value → H) :
    ReturnsInHanded {} Try.checked os 8 .any (Rows.splitPartsSpec.pre6 enc Try.prog Try.f8 Rows.splitPartsRow.domain false) (Rows.splitPartsSpec.post enc Try.prog Try.f8 false true false false) := by
  refine returnsInHanded_of_change (C := Try.checked) own started (by kernel_rfl) Try.func8
    (ChangeSpec.witness6 (enc := enc) (C := Try.checked) false ⟨#[], #[.agg #[.int .i64 0, .int .u64 0, .int .u64 0, .int .i64 0, .int .i64 0, .slice none 0 0, .slice none 0 0, .slice none 0 0, .int .i64 0, .slice none 0 0], .int .i64 0], []⟩ 8 (by kernel_rfl) (by kernel_rfl) (by kernel_rfl) (by kernel_rfl)) ?_
  intro W base args ds gs before hval0 hW _ _
  have hval : ∀ (j : Nat) t v, Try.f8.params[j]? = some t → args[j]? = some v → Value.okWide Try.prog W .any base t v := hval0
  have hW' := hW
  obtain ⟨p, q, hA0, hV, rfl, _, _⟩ := hW
  have hA : DataW.TrodAll enc Try.prog W 0 (fun _ => true) true Try.f8.params.toList args.toList ds p := hA0
  rw [Try.params8] at hA hval
  obtain ⟨v0, vs0, d0, ds0, p0, q0, hargs, rfl, rfl, h0, r0⟩ := trodAll_cons hA
  obtain ⟨v1, vs1, d1, ds1, p1, q1, rfl, rfl, rfl, h1, r1⟩ := trodAll_cons r0
  obtain ⟨rfl, rfl, rfl⟩ := trodAll_nil r1
  obtain rfl : args = #[v0, v1] := by cases args; simp_all
  obtain ⟨rfl, rfl⟩ := trodVars_none hV
  obtain ⟨o, rfl, ho⟩ := open_order (hval 0 _ v0 rfl rfl) h0
  obtain ⟨r, rfl, rfl, rfl, wr1⟩ := open_int Try.underlying3 (hval 1 _ v1 rfl rfl) h1
  have walk := walk W o r ho
  clear hA0 hval0
  refine walk.mono fun e W' ⟨he, hf⟩ => ?_
  subst he
  exact ⟨_, rfl, law_post laidOut paramsOk rfl rfl Try.underlying4 hW' rfl rfl rfl hf⟩

theorem said : Rows.SplitPartsSaid :=
  OpenClaim.holds_of_wide 8 Try.f8 rfl rfl rfl rfl rfl rfl rfl ⟨rfl, rfl, rfl, rfl, rfl⟩ rfl rfl rfl rfl rfl (by kernel_rfl) Try.func8 (by kernel_rfl)
    (of_decide_eq_true (by kernel_rfl)) (by unfold Func.isWrapper; first | (rw [if_pos (by decide +kernel)]; kernel_rfl) | (rw [if_neg (by decide +kernel)]; exact ⟨rfl, rfl⟩))
    (fun os started H enc _ => lifted os started H enc)
end Go.Proofs.Ytdgjjkmgdjiliaa.splitParts
