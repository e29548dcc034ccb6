/- LearnOnce is true: what is known stays known as it was; the places known without a gap never get fewer. No condition. -/
import Derived.Test.YtpldfdeikcaenaaOps
namespace Go.Proofs.Ytpldfdeikcaenaa.learnOnce
open Go.ChangeShapes Go.WideShapes Go.ChangeAt Go.RowKit Go.Maps

theorem learn_keeps {α : Type} {m : Int → Option α} {x : Int} {v : α} (h : m x = some v) (y : Int) (u : α) : learnM m y u x = some v := by
  unfold learnM
  split
  · rename_i hf
    rw [updK_other _ _ (fun e => by subst e; rw [freeB, h] at hf; cases hf)]
    exact h
  · exact h
theorem told_keeps {α : Type} {m : Int → Option α} {a : Int} {L : List (Int × α)} (h : Told m a L) (y : Int) (u : α) : Told (learnM m y u) a L := fun k p hp => ⟨(h k p hp).1, learn_keeps (h k p hp).2 y u⟩
theorem told_le {α : Type} {m : Int → Option α} (hd : Dom m) {a : Int} {L : List (Int × α)} (h : Told m a L) : L.length ≤ (seqV m a).length := by
  have hw := seqM_whole hd a
  rw [seqV, List.length_map]
  rcases Nat.lt_or_ge (seqM m a).length L.length with hl | hl
  · have := (h _ _ (List.getElem?_eq_getElem hl)).2
    rw [hw.2] at this
    cases this
  · exact hl
theorem seq_mono {α : Type} {m : Int → Option α} (hd : Dom m) (a y : Int) (u : α) : (seqV m a).length ≤ (seqV (learnM m y u) a).length := by
  have h := told_le (hd.learn y u) (told_keeps (seqM_whole hd a).1 y u)
  rwa [seqV, List.length_map]
theorem seq_max {α : Type} {m : Int → Option α} (hd : Dom m) (a : Int) : (seqV m a).length ≤ 64 := by
  rw [seqV, List.length_map]
  exact ((seqM_whole hd a).1.len hd).1
theorem lenS_seq (w : World) (B gc bm s : Nat) (m : Int → Option ByteArray) (h : ChS w B gc bm s m) :
    Calls Try.prog 11 #[.pointer (some ⟨gc, 0, none⟩)] w fun e w' => e = .returned (.int .i64 (seqV m 0).length) ∧ Fr NoBlk w w' :=
  (lenS_any w B gc bm s m h).mono fun e w' ⟨L, hL, he, hf⟩ => ⟨by rw [he, hL.seq h.dom, seqV, List.length_map], hf⟩
/-- what is known of the place that was learnt first. -/
def Kept (m : Int → Option ByteArray) (x : Int) (v : ByteArray) : Prop := m x = if decide (0 ≤ x) && decide (x < 64) then some v else none
theorem kept_first (x : Int) (v : ByteArray) : Kept (learnM (fun _ => none) x v) x v := by
  unfold Kept learnM freeB
  simp only [Option.isNone_none, Bool.true_and]
  split
  · exact updK_same _ _ _
  · rfl
theorem Kept.learn {m : Int → Option ByteArray} {x : Int} {v : ByteArray} (hd : Dom m) (h : Kept m x v) (y : Int) (u : ByteArray) : Kept (learnM m y u) x v := by
  unfold Kept at h ⊢
  split
  · rename_i hc
    rw [if_pos hc] at h
    exact learn_keeps h y u
  · rename_i hc
    rcases hm : learnM m y u x with _ | z
    · rfl
    · have := hd.learn y u x (by rw [hm]; exact fun e => by cases e)
      simp [this] at hc

set_option maxRecDepth 100000 in
set_option maxHeartbeats 4000000 in
theorem walk (w : World) (A : Option Addr) (c : Nat) (xs : List LOp) (o : LOp) (hr : Rd w A (lops xs)) (hx : ∀ x ∈ xs, LOpIn x) (ho : LOpIn o) (hm : xs.length ≤ maxLen) :
    Calls Try.prog 5 #[.slice A xs.length c, .agg (lopa o)] w fun e w' => e = .returned (.bool true) ∧ Fr NoBlk w w' := by
  have HF0 : Hid (Fr NoBlk w (w.alloc (.cells (lopa o) 32))) := (Fr.refl _ _).alloc _
  have HB0 : Hid (Bk (w.alloc (.cells (lopa o) 32)) w.heap.size 32 (lopa o)) := Bk.new _ _ _
  have HR := Lib.hid hr
  have HX := Lib.hid hx
  have HM := Lib.hid hm
  clear hr hx
  unfold maxLen at hm
  obtain ⟨osl, oval, ofr, omo⟩ := o
  have HOW : Hid (wf64 osl) := ho.1
  clear ho
  unfold lopa at HF0 HB0
  unfold lopa
  dsimp only at HF0 HB0 ⊢
  go_enter Try.func5, Try.ntmps5
  go_wp2_with fail
  refine (speaks_any _).mono ?_
  rintro e w1 ⟨rfl, hf1⟩
  have HF1 := Lib.hid (HF0.out.trans hf1)
  have HB1 := Lib.hid (HB0.out.fr hf1 fun h => h)
  clear hf1 HF0 HB0
  by_cases h300 : 300 < xs.length
  · go_wp2_with fail
    go_ret
    exact ⟨rfl, HF1.out⟩
  go_wp2_with fail
  refine (newS_any w1).mono ?_
  rintro e w2 ⟨gc, bm, rfl, hc2, hf2⟩
  have HC2 := Lib.hid hc2
  have HF2 := Lib.hid (HF1.out.trans hf2)
  have HB2 := Lib.hid (HB1.out.fr hf2 fun h => h)
  have c0 : w2.cell? ⟨w.heap.size, 0, none⟩ = some (.int .i64 osl) := HB2.out.cell 0
  have c1 : w2.cell? ⟨w.heap.size, 1, none⟩ = some (.string oval) := HB2.out.cell 1
  have HSZ := Lib.hid HF1.out.size
  have HL := Lib.hid (learnS_any w2 w1.heap.size gc bm 0 (fun _ => none) HC2.out (by omega) osl HOW.out oval)
  have HK := Lib.hid (kept_first osl oval)
  have HFB : Hid (freeB (fun _ => (none : Option ByteArray)) osl = (decide (0 ≤ osl) && decide (osl < 64))) := by show _ = _; unfold freeB; rw [Option.isNone_none, Bool.true_and]
  have HFB' : Hid (freeB (fun _ => (none : Option ByteArray)) osl = (decide (0 ≤ osl) && decide (osl < 64))) := by show _ = _; unfold freeB; rw [Option.isNone_none, Bool.true_and]
  clear hc2 hf2 HB1
  generalize learnM (fun _ => none) osl oval = m1 at *
  generalize hfirst : freeB (fun _ => (none : Option ByteArray)) osl = first at *
  clear hfirst
  unfold evS at HL
  go_wp2_with fail
  refine HL.out.mono ?_
  clear HL
  rintro e w3 ⟨rfl, s3, hs3, hc3, hf3⟩
  have HC3 := Lib.hid hc3
  have HS3 := Lib.hid hs3
  have HF3 : Hid (Fr NoBlk w w3) := HF2.out.step hf3 (fun i hi e => by have := HC2.out.b2; have := HF1.out.size; omega)
  have HB3 : Hid (Bk w3 w.heap.size 32 #[.int .i64 osl, .string oval, .int .i64 ofr, .int .i64 omo]) := HB2.out.fr hf3 (fun e => by exact bk_km_ne HB2.out HC2.out.km e)
  have HLN := Lib.hid (lenS_seq w3 w1.heap.size gc bm s3 m1 HC3.out)
  have HMX := Lib.hid (seq_max HC3.out.dom 0)
  obtain ⟨l1, hl1⟩ : ∃ l1, l1 = (seqV m1 0).length := ⟨_, rfl⟩
  rw [← hl1] at HLN HMX
  have HL1 := Lib.hid hl1
  clear hc3 hf3 hs3 hl1 c0 c1 HB2 HF2 HC2
  go_wp2_with fail
  refine HLN.out.mono ?_
  clear HLN
  rintro e w4 ⟨rfl, hf4⟩
  have HC4 := Lib.hid (HC3.out.nofr hf4)
  have HF4 := Lib.hid (HF3.out.trans hf4)
  have HB4 := Lib.hid (HB3.out.fr hf4 fun h => h)
  have c0 : w4.cell? ⟨w.heap.size, 0, none⟩ = some (.int .i64 osl) := HB4.out.cell 0
  have c1 : w4.cell? ⟨w.heap.size, 1, none⟩ = some (.string oval) := HB4.out.cell 1
  clear hf4 HC3 HF3 HB3
  have hge : (0 ≤ osl ∧ (osl < 64 ∧ first = true ∨ 64 ≤ osl ∧ first = false)) ∨ (osl < 0 ∧ first = false) := by
    rcases (by omega : osl < 0 ∨ 0 ≤ osl) with h | h
    · exact .inr ⟨h, by rw [HFB.out, decide_eq_false (by omega)]; rfl⟩
    · refine .inl ⟨h, ?_⟩
      rcases (by omega : osl < 64 ∨ 64 ≤ osl) with h' | h'
      · exact .inl ⟨h', by rw [HFB.out, decide_eq_true h, decide_eq_true h']; rfl⟩
      · exact .inr ⟨h', by rw [HFB.out, decide_eq_true h, decide_eq_false (by omega)]; rfl⟩
  have HKF : Hid (∀ m, Kept m osl oval → m osl = if first then some oval else none) := fun m h => by rw [HFB'.out]; exact h
  clear HFB HFB'
  have HI0 : Hid (∃ m s, ChS w4 w1.heap.size gc bm s m ∧ s ≤ 1 + 0 ∧ Kept m osl oval ∧ l1 = (seqV m 0).length ∧ l1 ≤ 64 ∧ Fr NoBlk w w4 ∧ Bk w4 w.heap.size 32 #[.int .i64 osl, .string oval, .int .i64 ofr, .int .i64 omo]) := ⟨m1, s3, HC4.out, by have := HS3.out; omega, HK.out, HL1.out, HMX.out, HF4.out, HB4.out⟩
  clear HC4 HK HL1 HMX HB4 HS3
  rcases hge with ⟨h0, ⟨h1, rfl⟩ | ⟨h1, rfl⟩⟩ | ⟨h0, rfl⟩
  · have hk1 : (64 : Int) > osl := h1
    go_wp2_with fail
    go_loopw [7, 40] (fun l s wr => ∃ (i n : Nat), i ≤ xs.length ∧ s = .int .i64 i ∧ l = .int .i64 n ∧ Hid (∃ m t, ChS wr w1.heap.size gc bm t m ∧ t ≤ 1 + i ∧ Kept m osl oval ∧ n = (seqV m 0).length ∧ n ≤ 64 ∧ Fr NoBlk w wr ∧ Bk wr w.heap.size 32 #[.int .i64 osl, .string oval, .int .i64 ofr, .int .i64 omo])) (fun _ s _ => xs.length - (intOf s).toNat)
    case atStart => exact ⟨0, l1, Nat.zero_le _, rfl, rfl, HI0⟩
    case round =>
      clear HI0
      obtain ⟨k, n, hk, rfl, rfl, HE⟩ := hrel
      obtain ⟨m, t, hc, ht, hkp, hn, hn64, hfr, hb⟩ := HE.out
      have HC := Lib.hid hc
      have HT := Lib.hid ht
      have HKP := Lib.hid hkp
      have HN := Lib.hid hn
      have HFR := Lib.hid hfr
      have HB := Lib.hid hb
      clear hc ht hkp hn hfr hb HE
      by_cases hlt : k < xs.length
      · obtain ⟨x, hx⟩ : ∃ x, xs[k]? = some x := ⟨_, List.getElem?_eq_getElem hlt⟩
        obtain ⟨b, o, rfl, d0, d1, d2, d3⟩ := (HR.out.nofr HFR.out).lop hx
        have HXI := Lib.hid (HX.out x (List.mem_of_getElem? hx))
        clear hx
        obtain ⟨xsl, xv, xf, xm⟩ := x
        have HW : Hid (Fr NoBlk wr (wr.alloc (.cells (lopa ⟨xsl, xv, xf, xm⟩) 32))) := (Fr.refl _ _).alloc _
        have HBX : Hid (Bk (wr.alloc (.cells (lopa ⟨xsl, xv, xf, xm⟩) 32)) wr.heap.size 32 (lopa ⟨xsl, xv, xf, xm⟩)) := Bk.new _ _ _
        have HL := Lib.hid (learnS_any _ w1.heap.size gc bm t m (HC.out.nofr HW.out) (by have := HT.out; omega) xsl HXI.out.1 xv)
        unfold lopa at HW HBX HL
        unfold evS at HL
        dsimp only at d0 d1 d2 d3 HW HBX HL
        have HK2 := Lib.hid (HKP.out.learn HC.out.dom xsl xv)
        have HMO := Lib.hid (seq_mono HC.out.dom 0 xsl xv)
        rw [← HN.out] at HMO
        have HD2 := Lib.hid (HC.out.dom.learn xsl xv)
        generalize learnM m xsl xv = m2 at *
        generalize freeB m xsl = fb at *
        go_wp2_with fail
        refine HL.out.mono ?_
        clear HL
        rintro e w6 ⟨rfl, t6, ht6, hc6, hf6⟩
        have HC6 := Lib.hid hc6
        have HT6 := Lib.hid ht6
        have HFX : Hid (Fr (fun j => j = bm) wr w6) := (HW.out.mono fun _ _ h => h.elim).trans hf6
        have HF6 : Hid (Fr NoBlk w w6) := HFR.out.step HFX.out (fun i hi e => by have := HC.out.b2; have := HSZ.out; omega)
        have HB6 : Hid (Bk w6 w.heap.size 32 #[.int .i64 osl, .string oval, .int .i64 ofr, .int .i64 omo]) := HB.out.fr HFX.out (fun e => by exact bk_km_ne HB.out HC.out.km e)
        have HG := Lib.hid (getS_any w6 w1.heap.size gc bm t6 m2 HC6.out osl HOW.out)
        rw [HKF.out _ HK2.out] at HG
        simp only [if_true, Option.map_some, Option.getD_some, Option.isSome_some, evS] at HG
        have c0 : w6.cell? ⟨w.heap.size, 0, none⟩ = some (.int .i64 osl) := HB6.out.cell 0
        have c1 : w6.cell? ⟨w.heap.size, 1, none⟩ = some (.string oval) := HB6.out.cell 1
        clear hc6 ht6 hf6
        go_wp2_with fail
        refine HG.out.mono ?_
        rintro e w7 ⟨rfl, hw7⟩
        subst hw7
        have HLN := Lib.hid fun W h => lenS_seq W w1.heap.size gc bm t6 m2 h
        have HMX := Lib.hid (seq_max HD2.out 0)
        obtain ⟨n2, hn2⟩ : ∃ n2, n2 = (seqV m2 0).length := ⟨_, rfl⟩
        rw [← hn2] at HLN HMX HMO
        have HN2 := Lib.hid hn2
        have hnl : ¬ ((n2 : Int) < (n : Int)) := by have := HMO.out; omega
        clear hn2 HG
        go_wp2_with fail
        refine (HLN.out _ HC6.out).mono ?_
        rintro e w8 ⟨rfl, hf8⟩
        have HC8 := Lib.hid (HC6.out.nofr hf8)
        have HF8 := Lib.hid (HF6.out.trans hf8)
        have HB8 := Lib.hid (HB6.out.fr hf8 fun h => h)
        clear hf8 c0 c1
        go_wp2_with fail
        refine (HLN.out _ HC8.out).mono ?_
        rintro e w9 ⟨rfl, hf9⟩
        have HZ : Hid (∃ m t, ChS w9 w1.heap.size gc bm t m ∧ t ≤ 1 + (k + 1) ∧ Kept m osl oval ∧ n2 = (seqV m 0).length ∧ n2 ≤ 64 ∧ Fr NoBlk w w9 ∧ Bk w9 w.heap.size 32 #[.int .i64 osl, .string oval, .int .i64 ofr, .int .i64 omo]) :=
          ⟨m2, t6, HC8.out.nofr hf9, by have := HT6.out; have := HT.out; omega, HK2.out, HN2.out, HMX.out, HF8.out.trans hf9, HB8.out.fr hf9 fun h => h⟩
        clear hf9 HMX
        go_wp2_with fail
        go_roundw
        case rel => exact ⟨k + 1, n2, by omega, by go_num, rfl, HZ⟩
        case measure => simp [intOf]; omega
      · have hn65 : (n : Int) ≤ 64 := by omega
        go_wp2_with fail
        go_ret
        exact ⟨by simp [hn65], HFR.out⟩
  · have hk1 : ¬ (osl < 64) := by omega
    go_wp2_with fail
    go_loopw [7, 40] (fun l s wr => ∃ (i n : Nat), i ≤ xs.length ∧ s = .int .i64 i ∧ l = .int .i64 n ∧ Hid (∃ m t, ChS wr w1.heap.size gc bm t m ∧ t ≤ 1 + i ∧ Kept m osl oval ∧ n = (seqV m 0).length ∧ n ≤ 64 ∧ Fr NoBlk w wr ∧ Bk wr w.heap.size 32 #[.int .i64 osl, .string oval, .int .i64 ofr, .int .i64 omo])) (fun _ s _ => xs.length - (intOf s).toNat)
    case atStart => exact ⟨0, l1, Nat.zero_le _, rfl, rfl, HI0⟩
    case round =>
      clear HI0
      obtain ⟨k, n, hk, rfl, rfl, HE⟩ := hrel
      obtain ⟨m, t, hc, ht, hkp, hn, hn64, hfr, hb⟩ := HE.out
      have HC := Lib.hid hc
      have HT := Lib.hid ht
      have HKP := Lib.hid hkp
      have HN := Lib.hid hn
      have HFR := Lib.hid hfr
      have HB := Lib.hid hb
      clear hc ht hkp hn hfr hb HE
      by_cases hlt : k < xs.length
      · obtain ⟨x, hx⟩ : ∃ x, xs[k]? = some x := ⟨_, List.getElem?_eq_getElem hlt⟩
        obtain ⟨b, o, rfl, d0, d1, d2, d3⟩ := (HR.out.nofr HFR.out).lop hx
        have HXI := Lib.hid (HX.out x (List.mem_of_getElem? hx))
        clear hx
        obtain ⟨xsl, xv, xf, xm⟩ := x
        have HW : Hid (Fr NoBlk wr (wr.alloc (.cells (lopa ⟨xsl, xv, xf, xm⟩) 32))) := (Fr.refl _ _).alloc _
        have HBX : Hid (Bk (wr.alloc (.cells (lopa ⟨xsl, xv, xf, xm⟩) 32)) wr.heap.size 32 (lopa ⟨xsl, xv, xf, xm⟩)) := Bk.new _ _ _
        have HL := Lib.hid (learnS_any _ w1.heap.size gc bm t m (HC.out.nofr HW.out) (by have := HT.out; omega) xsl HXI.out.1 xv)
        unfold lopa at HW HBX HL
        unfold evS at HL
        dsimp only at d0 d1 d2 d3 HW HBX HL
        have HK2 := Lib.hid (HKP.out.learn HC.out.dom xsl xv)
        have HMO := Lib.hid (seq_mono HC.out.dom 0 xsl xv)
        rw [← HN.out] at HMO
        have HD2 := Lib.hid (HC.out.dom.learn xsl xv)
        generalize learnM m xsl xv = m2 at *
        generalize freeB m xsl = fb at *
        go_wp2_with fail
        refine HL.out.mono ?_
        clear HL
        rintro e w6 ⟨rfl, t6, ht6, hc6, hf6⟩
        have HC6 := Lib.hid hc6
        have HT6 := Lib.hid ht6
        have HFX : Hid (Fr (fun j => j = bm) wr w6) := (HW.out.mono fun _ _ h => h.elim).trans hf6
        have HF6 : Hid (Fr NoBlk w w6) := HFR.out.step HFX.out (fun i hi e => by have := HC.out.b2; have := HSZ.out; omega)
        have HB6 : Hid (Bk w6 w.heap.size 32 #[.int .i64 osl, .string oval, .int .i64 ofr, .int .i64 omo]) := HB.out.fr HFX.out (fun e => by exact bk_km_ne HB.out HC.out.km e)
        have HG := Lib.hid (getS_any w6 w1.heap.size gc bm t6 m2 HC6.out osl HOW.out)
        rw [HKF.out _ HK2.out] at HG
        simp only [Bool.false_eq_true, if_false, Option.map_none, Option.getD_none, Option.isSome_none] at HG
        have c0 : w6.cell? ⟨w.heap.size, 0, none⟩ = some (.int .i64 osl) := HB6.out.cell 0
        have c1 : w6.cell? ⟨w.heap.size, 1, none⟩ = some (.string oval) := HB6.out.cell 1
        clear hc6 ht6 hf6
        go_wp2_with fail
        refine HG.out.mono ?_
        rintro e w7 ⟨rfl, hw7⟩
        subst hw7
        have HLN := Lib.hid fun W h => lenS_seq W w1.heap.size gc bm t6 m2 h
        have HMX := Lib.hid (seq_max HD2.out 0)
        obtain ⟨n2, hn2⟩ : ∃ n2, n2 = (seqV m2 0).length := ⟨_, rfl⟩
        rw [← hn2] at HLN HMX HMO
        have HN2 := Lib.hid hn2
        have hnl : ¬ ((n2 : Int) < (n : Int)) := by have := HMO.out; omega
        clear hn2 HG
        go_wp2_with fail
        refine (HLN.out _ HC6.out).mono ?_
        rintro e w8 ⟨rfl, hf8⟩
        have HC8 := Lib.hid (HC6.out.nofr hf8)
        have HF8 := Lib.hid (HF6.out.trans hf8)
        have HB8 := Lib.hid (HB6.out.fr hf8 fun h => h)
        clear hf8 c0 c1
        go_wp2_with fail
        refine (HLN.out _ HC8.out).mono ?_
        rintro e w9 ⟨rfl, hf9⟩
        have HZ : Hid (∃ m t, ChS w9 w1.heap.size gc bm t m ∧ t ≤ 1 + (k + 1) ∧ Kept m osl oval ∧ n2 = (seqV m 0).length ∧ n2 ≤ 64 ∧ Fr NoBlk w w9 ∧ Bk w9 w.heap.size 32 #[.int .i64 osl, .string oval, .int .i64 ofr, .int .i64 omo]) :=
          ⟨m2, t6, HC8.out.nofr hf9, by have := HT6.out; have := HT.out; omega, HK2.out, HN2.out, HMX.out, HF8.out.trans hf9, HB8.out.fr hf9 fun h => h⟩
        clear hf9 HMX
        go_wp2_with fail
        go_roundw
        case rel => exact ⟨k + 1, n2, by omega, by go_num, rfl, HZ⟩
        case measure => simp [intOf]; omega
      · have hn65 : (n : Int) ≤ 64 := by omega
        go_wp2_with fail
        go_ret
        exact ⟨by simp [hn65], HFR.out⟩
  · have hk1 : ¬ (0 ≤ osl) := by omega
    go_wp2_with fail
    go_loopw [7, 40] (fun l s wr => ∃ (i n : Nat), i ≤ xs.length ∧ s = .int .i64 i ∧ l = .int .i64 n ∧ Hid (∃ m t, ChS wr w1.heap.size gc bm t m ∧ t ≤ 1 + i ∧ Kept m osl oval ∧ n = (seqV m 0).length ∧ n ≤ 64 ∧ Fr NoBlk w wr ∧ Bk wr w.heap.size 32 #[.int .i64 osl, .string oval, .int .i64 ofr, .int .i64 omo])) (fun _ s _ => xs.length - (intOf s).toNat)
    case atStart => exact ⟨0, l1, Nat.zero_le _, rfl, rfl, HI0⟩
    case round =>
      clear HI0
      obtain ⟨k, n, hk, rfl, rfl, HE⟩ := hrel
      obtain ⟨m, t, hc, ht, hkp, hn, hn64, hfr, hb⟩ := HE.out
      have HC := Lib.hid hc
      have HT := Lib.hid ht
      have HKP := Lib.hid hkp
      have HN := Lib.hid hn
      have HFR := Lib.hid hfr
      have HB := Lib.hid hb
      clear hc ht hkp hn hfr hb HE
      by_cases hlt : k < xs.length
      · obtain ⟨x, hx⟩ : ∃ x, xs[k]? = some x := ⟨_, List.getElem?_eq_getElem hlt⟩
        obtain ⟨b, o, rfl, d0, d1, d2, d3⟩ := (HR.out.nofr HFR.out).lop hx
        have HXI := Lib.hid (HX.out x (List.mem_of_getElem? hx))
        clear hx
        obtain ⟨xsl, xv, xf, xm⟩ := x
        have HW : Hid (Fr NoBlk wr (wr.alloc (.cells (lopa ⟨xsl, xv, xf, xm⟩) 32))) := (Fr.refl _ _).alloc _
        have HBX : Hid (Bk (wr.alloc (.cells (lopa ⟨xsl, xv, xf, xm⟩) 32)) wr.heap.size 32 (lopa ⟨xsl, xv, xf, xm⟩)) := Bk.new _ _ _
        have HL := Lib.hid (learnS_any _ w1.heap.size gc bm t m (HC.out.nofr HW.out) (by have := HT.out; omega) xsl HXI.out.1 xv)
        unfold lopa at HW HBX HL
        unfold evS at HL
        dsimp only at d0 d1 d2 d3 HW HBX HL
        have HK2 := Lib.hid (HKP.out.learn HC.out.dom xsl xv)
        have HMO := Lib.hid (seq_mono HC.out.dom 0 xsl xv)
        rw [← HN.out] at HMO
        have HD2 := Lib.hid (HC.out.dom.learn xsl xv)
        generalize learnM m xsl xv = m2 at *
        generalize freeB m xsl = fb at *
        go_wp2_with fail
        refine HL.out.mono ?_
        clear HL
        rintro e w6 ⟨rfl, t6, ht6, hc6, hf6⟩
        have HC6 := Lib.hid hc6
        have HT6 := Lib.hid ht6
        have HFX : Hid (Fr (fun j => j = bm) wr w6) := (HW.out.mono fun _ _ h => h.elim).trans hf6
        have HF6 : Hid (Fr NoBlk w w6) := HFR.out.step HFX.out (fun i hi e => by have := HC.out.b2; have := HSZ.out; omega)
        have HB6 : Hid (Bk w6 w.heap.size 32 #[.int .i64 osl, .string oval, .int .i64 ofr, .int .i64 omo]) := HB.out.fr HFX.out (fun e => by exact bk_km_ne HB.out HC.out.km e)
        have HG := Lib.hid (getS_any w6 w1.heap.size gc bm t6 m2 HC6.out osl HOW.out)
        rw [HKF.out _ HK2.out] at HG
        simp only [Bool.false_eq_true, if_false, Option.map_none, Option.getD_none, Option.isSome_none] at HG
        have c0 : w6.cell? ⟨w.heap.size, 0, none⟩ = some (.int .i64 osl) := HB6.out.cell 0
        have c1 : w6.cell? ⟨w.heap.size, 1, none⟩ = some (.string oval) := HB6.out.cell 1
        clear hc6 ht6 hf6
        go_wp2_with fail
        refine HG.out.mono ?_
        rintro e w7 ⟨rfl, hw7⟩
        subst hw7
        have HLN := Lib.hid fun W h => lenS_seq W w1.heap.size gc bm t6 m2 h
        have HMX := Lib.hid (seq_max HD2.out 0)
        obtain ⟨n2, hn2⟩ : ∃ n2, n2 = (seqV m2 0).length := ⟨_, rfl⟩
        rw [← hn2] at HLN HMX HMO
        have HN2 := Lib.hid hn2
        have hnl : ¬ ((n2 : Int) < (n : Int)) := by have := HMO.out; omega
        clear hn2 HG
        go_wp2_with fail
        refine (HLN.out _ HC6.out).mono ?_
        rintro e w8 ⟨rfl, hf8⟩
        have HC8 := Lib.hid (HC6.out.nofr hf8)
        have HF8 := Lib.hid (HF6.out.trans hf8)
        have HB8 := Lib.hid (HB6.out.fr hf8 fun h => h)
        clear hf8 c0 c1
        go_wp2_with fail
        refine (HLN.out _ HC8.out).mono ?_
        rintro e w9 ⟨rfl, hf9⟩
        have HZ : Hid (∃ m t, ChS w9 w1.heap.size gc bm t m ∧ t ≤ 1 + (k + 1) ∧ Kept m osl oval ∧ n2 = (seqV m 0).length ∧ n2 ≤ 64 ∧ Fr NoBlk w w9 ∧ Bk w9 w.heap.size 32 #[.int .i64 osl, .string oval, .int .i64 ofr, .int .i64 omo]) :=
          ⟨m2, t6, HC8.out.nofr hf9, by have := HT6.out; have := HT.out; omega, HK2.out, HN2.out, HMX.out, HF8.out.trans hf9, HB8.out.fr hf9 fun h => h⟩
        clear hf9 HMX
        go_wp2_with fail
        go_roundw
        case rel => exact ⟨k + 1, n2, by omega, by go_num, rfl, HZ⟩
        case measure => simp [intOf]; omega
      · have hn65 : (n : Int) ≤ 64 := by omega
        go_wp2_with fail
        go_ret
        exact ⟨by simp [hn65], HFR.out⟩

theorem paramsOk : ∀ t ∈ Try.f5.params.toList, Try.prog.readableRec t = true ∧ t < Try.prog.types.size := fun t ht => by
  have h := List.all_eq_true.1 (show (Try.f5.params.toList.all fun t => Try.prog.readableRec t && decide (t < Try.prog.types.size)) = true by kernel_rfl) t ht
  simpa using h

set_option maxRecDepth 100000 in
theorem lifted (os : Os) (started : os.Started) (H : Type) (enc : TypeId × Value → H) :
    ReturnsInHanded {} Try.checked os 5 .any (Rows.learnOnceSpec.pre6 enc Try.prog Try.f5 Rows.learnOnceRow.domain false) (Rows.learnOnceSpec.post enc Try.prog Try.f5 false true false false) := by
  refine returnsInHanded_of_change (C := Try.checked) own started (by kernel_rfl) Try.func5
    (ChangeSpec.witness6 (enc := enc) (C := Try.checked) false ⟨#[], #[.slice none 0 0, .agg #[.int .i64 0, .string ByteArray.empty, .int .i64 0, .int .i64 0]], []⟩ 8 (by kernel_rfl) (by kernel_rfl) (by kernel_rfl) (by kernel_rfl)) ?_
  intro W base args ds gs before hval0 hW _ _
  have hval : ∀ (j : Nat) t v, Try.f5.params[j]? = some t → args[j]? = some v → Value.okWide Try.prog W .any base t v := hval0
  have hW' := hW
  obtain ⟨p, q, hA0, hV, rfl, _, _⟩ := hW
  have hA : DataW.TrodAll enc Try.prog W 0 (fun _ => true) true Try.f5.params.toList args.toList ds p := hA0
  rw [Try.params5] at hA hval
  obtain ⟨v0, vs0, d0, ds0, p0, q0, hargs, rfl, rfl, h0, r0⟩ := trodAll_cons hA
  obtain ⟨v1, vs1, d1, ds1, p1, q1, rfl, rfl, rfl, h1, r1⟩ := trodAll_cons r0
  obtain ⟨rfl, rfl, rfl⟩ := trodAll_nil r1
  obtain rfl : args = #[v0, v1] := by cases args; simp_all
  obtain ⟨rfl, rfl⟩ := trodVars_none hV
  obtain ⟨A, c, xs, rfl, hr, hx, hxc, hc⟩ := open_lops (hval 0 _ v0 rfl rfl) h0
  obtain ⟨b0, b1, b2, b3, y0, y1, y2, y3, n1, rfl, _, _, k0, k1, k2, k3⟩ := Joins.open_agg4 Try.underlying32 (by kernel_rfl) (by kernel_rfl) (hval 1 _ v1 rfl rfl) h1
  obtain ⟨z0, e0, _, w0⟩ := DataW.trod_int Try.underlying3 k0
  obtain ⟨s1, e1, _, _⟩ := DataW.trod_string Try.underlying9 k1
  obtain ⟨z2, e2, _, w2⟩ := DataW.trod_int Try.underlying3 k2
  obtain ⟨z3, e3, _, w3⟩ := DataW.trod_int Try.underlying3 k3
  injection e0 with e0
  injection e1 with e1
  injection e2 with e2
  injection e3 with e3
  subst e0 e1 e2 e3
  have walk := walk W A c xs ⟨z0, s1, z2, z3⟩ hr hx ⟨w0, w2, w3⟩ (Nat.le_trans hxc hc)
  clear hA0 hval0
  refine walk.mono fun e W' ⟨he, hf⟩ => ?_
  subst he
  exact ⟨_, rfl, law_post laidOut paramsOk rfl rfl Try.underlying4 hW' rfl rfl rfl hf⟩

theorem said : Rows.LearnOnceSaid :=
  OpenClaim.holds_of_wide 5 Try.f5 rfl rfl rfl rfl rfl rfl rfl ⟨rfl, rfl, rfl, rfl, rfl⟩ rfl rfl rfl rfl rfl (by kernel_rfl) Try.func5 (by kernel_rfl)
    (of_decide_eq_true (by kernel_rfl)) (by unfold Func.isWrapper; first | (rw [if_pos (by decide +kernel)]; kernel_rfl) | (rw [if_neg (by decide +kernel)]; exact ⟨rfl, rfl⟩))
    (fun os started H enc _ => lifted os started H enc)
end Go.Proofs.Ytpldfdeikcaenaa.learnOnce
