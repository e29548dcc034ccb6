/- LearnPlays is true: every call of any script on what is known answers exactly as the document says. No condition. -/
import Derived.Test.YtpldfdeikcaenaaOps
import Derived.BigQuiet
import Derived.Deep.QuietTactic
namespace Go.Proofs.Ytpldfdeikcaenaa.learnPlays
open Go.ChangeShapes Go.WideShapes Go.ChangeAt Go.RowKit Go.Maps

/-- what stands in memory: the program's Chosen (m) and the document's (m2). -/
structure PAt (w : World) (gc bm gr : Nat) (t : Nat) (m m2 : Int → Option ByteArray) (W : World) : Prop where
  ch : ChS W w.heap.size gc bm t m
  rf : RefC W gr m2
  fr : Fr NoBlk w W
  g1 : w.heap.size ≤ gr
section
variable {w : World} {gc bm gr : Nat} {t : Nat} {m m2 : Int → Option ByteArray} {W W' : World}
theorem PAt.nofr (k : PAt w gc bm gr t m m2 W) (hf : Fr NoBlk W W') : PAt w gc bm gr t m m2 W' := ⟨k.ch.nofr hf, k.rf.fr hf fun h => h, k.fr.trans hf, k.g1⟩
theorem PAt.learn (k : PAt w gc bm gr t m m2 W) {t' : Nat} {m' : Int → Option ByteArray} (hc : ChS W' w.heap.size gc bm t' m') (hf : Fr (fun j => j = bm) W W') : PAt w gc bm gr t' m' m2 W' :=
  ⟨hc, k.rf.fr hf (fun e => bk_km_ne k.rf k.ch.km e), k.fr.step hf (fun i hi e => by have := k.ch.b2; omega), k.g1⟩
theorem PAt.rlearn (k : PAt w gc bm gr t m m2 W) {m' : Int → Option ByteArray} (hc : RefC W' gr m') (hf : Fr (fun j => j = gr) W W') : PAt w gc bm gr t m m' W' :=
  ⟨k.ch.fr hf (fun e => Bk.apart k.ch.bk k.rf (by decide) e) (fun e => bk_km_ne k.rf k.ch.km e.symm), hc, k.fr.step hf (fun i hi e => by have := k.g1; omega), k.g1⟩
end
theorem ChS.low {w : World} {B B' gc bm s : Nat} {m : Int → Option ByteArray} (h : ChS w B gc bm s m) (hb : B' ≤ B) : ChS w B' gc bm s m := ⟨h.bk, h.km, h.dom, Nat.le_trans hb h.b1, Nat.le_trans hb h.b2⟩
theorem lenS_seq (w : World) (B gc bm s : Nat) (m : Int → Option ByteArray) (h : ChS w B gc bm s m) :
    Calls Try.prog 11 #[.pointer (some ⟨gc, 0, none⟩)] w fun e w' => e = .returned (.int .i64 (seqV m 0).length) ∧ Fr NoBlk w w' :=
  (lenS_any w B gc bm s m h).mono fun e w' ⟨L, hL, he, hf⟩ => ⟨by rw [he, hL.seq h.dom, seqV, List.length_map], hf⟩
set_option maxRecDepth 100000 in
theorem zeroR (w : World) : (zeroValue 30).run Try.prog w = .ok (.agg (refCells fun _ => none)) w := by kernel_rfl
/-- a row of the call's own, as one block. -/
theorem own_bk {w : World} {base : Nat} {e : TypeId} {n : Nat} {v : Value} {xs : List Value} (h : w.ownsRow base e 1 v n xs) (hn : 0 < n) :
    ∃ (g c : Nat) (cur : Array Value), v = .slice (some ⟨g, 0, none⟩) n c ∧ base ≤ g ∧ n ≤ c ∧ Bk w g e cur ∧ ∀ (j : Nat) (u : Value), xs[j]? = some u → cur[j]? = some u := by
  rcases h.2 with ⟨_, rfl⟩ | ⟨g, cap, cur, rfl, hb, hh, hnc, _, hcs, htake⟩
  · omega
  · refine ⟨g, cap, cur, rfl, hb, hnc, hh, fun j u hj => ?_⟩
    rw [← htake, List.getElem?_take] at hj
    split at hj
    · simpa using hj
    · cases hj

set_option maxRecDepth 100000 in
set_option maxHeartbeats 4000000 in
theorem walk (w : World) (A : Option Addr) (c : Nat) (xs : List LOp) (hr : Rd w A (lops xs)) (hx : ∀ x ∈ xs, LOpIn x) (hm : xs.length ≤ maxLen) :
    Calls Try.prog 3 #[.slice A xs.length c] w fun e w' => e = .returned (.bool true) ∧ Fr NoBlk w w' := by
  have HR := Lib.hid hr
  have HX := Lib.hid hx
  have HM := Lib.hid hm
  clear hr hx
  unfold maxLen at hm
  go_enter Try.func3, Try.ntmps3
  go_wp2_with fail
  refine (speaks_any _).mono ?_
  rintro e w1 ⟨rfl, hf1⟩
  have HF1 := Lib.hid hf1
  clear hf1
  by_cases h300 : 300 < xs.length
  · go_wp2_with fail
    go_ret
    exact ⟨rfl, HF1.out⟩
  go_wp2_with fail
  refine (newS_any w1).mono ?_
  rintro e w2 ⟨gc, bm, rfl, hc2, hf2⟩
  have HC2 := Lib.hid (ChS.low hc2 HF1.out.size)
  have HF2 := Lib.hid (HF1.out.trans hf2)
  clear hf2 hc2 HF1
  have hz := zeroR w2
  obtain ⟨Z, hZ⟩ : ∃ Z, Z = refCells (fun _ => none) := ⟨_, rfl⟩
  rw [← hZ] at hz
  have HZZ := Lib.hid hZ
  clear hZ
  obtain ⟨gr, hgr⟩ : ∃ gr, gr = w2.heap.size := ⟨_, rfl⟩
  obtain ⟨w3, hw3⟩ : ∃ w3, w3 = w2.alloc (.cells Z 30) := ⟨_, rfl⟩
  have H3 : Hid (PAt w gc bm gr 0 (fun _ => none) (fun _ => none) w3) := by
    have hf : Fr NoBlk w2 w3 := by rw [hw3]; exact (Fr.refl _ _).alloc _
    refine ⟨HC2.out.nofr hf, ?_, HF2.out.trans hf, by have := HF2.out.size; omega⟩
    rw [hw3, hgr]
    show Bk _ _ _ _
    rw [← HZZ.out]
    exact Bk.new _ _ _
  go_wp2_with fail
  rw [← hw3, ← hgr]
  clear hw3 hgr HC2 HF2 hz HZZ
  go_loopw [26] (fun s wr => ∃ i : Nat, i ≤ xs.length ∧ s = .int .i64 i ∧ Hid (∃ m t, PAt w gc bm gr t m m wr ∧ t ≤ i)) (fun s _ => xs.length - (intOf s).toNat)
  case atStart => exact ⟨0, Nat.zero_le _, rfl, _, 0, H3.out, Nat.le_refl _⟩
  case round =>
    clear H3
    obtain ⟨k, hk, rfl, HE⟩ := hrel
    obtain ⟨m, t, hl, ht⟩ := HE.out
    have HL := Lib.hid hl
    have HT := Lib.hid ht
    clear hl ht HE
    by_cases hlt : k < xs.length
    rotate_left
    · go_wp2_with fail
      go_ret
      exact ⟨rfl, HL.out.fr⟩
    obtain ⟨x, hx⟩ : ∃ x, xs[k]? = some x := ⟨_, List.getElem?_eq_getElem hlt⟩
    obtain ⟨b, o, rfl, d0, d1, d2, d3⟩ := (HR.out.nofr HL.out.fr).lop hx
    have HXI := Lib.hid (HX.out x (List.mem_of_getElem? hx))
    clear hx
    obtain ⟨xsl, xv, xf, xm⟩ := x
    obtain ⟨w5, hw5⟩ : ∃ w5, w5 = wr.alloc (.cells (lopa ⟨xsl, xv, xf, xm⟩) 32) := ⟨_, rfl⟩
    obtain ⟨ob, hob⟩ : ∃ ob, ob = wr.heap.size := ⟨_, rfl⟩
    have HBX : Hid (Bk w5 ob 32 #[.int .i64 xsl, .string xv, .int .i64 xf, .int .i64 xm]) := by show Bk _ _ _ _; rw [hw5, hob]; exact Bk.new _ _ _
    have HL5 : Hid (PAt w gc bm gr t m m w5) := by show PAt _ _ _ _ _ _ _ _; rw [hw5]; exact HL.out.nofr ((Fr.refl _ _).alloc _)
    have HLE := Lib.hid fun W hh => learnS_any W w.heap.size gc bm t m hh (by have := HT.out; omega) xsl HXI.out.1 xv
    have HRE := Lib.hid fun W hh => rlearn_any W gr m hh xsl xv
    have HD2 := Lib.hid (HL.out.ch.dom.learn xsl xv)
    unfold lopa at hw5
    unfold evS at HLE
    dsimp only at d0 d1 d2 d3 hw5 HLE
    generalize learnM m xsl xv = m2 at *
    generalize freeB m xsl = fb at *
    have sOf : Hid (∀ W, Bk W ob 32 #[.int .i64 xsl, .string xv, .int .i64 xf, .int .i64 xm] → W.cell? ⟨ob, 0, none⟩ = some (.int .i64 xsl) ∧ W.cell? ⟨ob, 1, none⟩ = some (.string xv) ∧ W.cell? ⟨ob, 2, none⟩ = some (.int .i64 xf) ∧ W.cell? ⟨ob, 3, none⟩ = some (.int .i64 xm)) := fun W h => ⟨h.cell 0, h.cell 1, h.cell 2, h.cell 3⟩
    go_wp2_with fail
    rw [← hw5, ← hob]
    clear hw5 hob d0 d1 d2 d3
    refine wp_region_held_drew (S := fun w' => w'.cell? ⟨ob, 0, none⟩ = some (.int .i64 xsl) ∧ w'.cell? ⟨ob, 1, none⟩ = some (.string xv)) (by kernel_rfl) ⟨(sOf.out _ (Bk.fr HBX.out (Fr.refl NoBlk _).drew fun h => h)).1, (sOf.out _ (Bk.fr HBX.out (Fr.refl NoBlk _).drew fun h => h)).2.1⟩ (fun hHeld => ?_)
    refine wpAnyH_take (i := 0) (oi := ⟨some 30, _, _, _, _, _⟩) (v := ?_) rfl (by kernel_rfl) (by kernel_rfl) (by kernel_rfl) (fun _ _ _ h => h) (Or.inl ⟨by rfl, ?_⟩) (by assumption) ?_
    rotate_left 1
    · (intro w hSw; (try dsimp only at hSw); obtain ⟨hSa, hSb⟩ := hSw; go_simp) <;> (with_reducible rfl)
    try simp only [Act.put, List.setIfInBounds_toArray, List.set_cons_zero, List.set_cons_succ]
    refine wpAnyH_take (i := 1) (oi := ⟨some 31, _, _, _, _, _⟩) (v := ?_) rfl (by kernel_rfl) (by kernel_rfl) (by kernel_rfl) (fun _ _ _ h => h) (Or.inl ⟨by rfl, ?_⟩) (by assumption) ?_
    rotate_left 1
    · (intro w hSw; (try dsimp only at hSw); obtain ⟨hSa, hSb⟩ := hSw; go_simp) <;> (with_reducible rfl)
    try simp only [Act.put, List.setIfInBounds_toArray, List.set_cons_zero, List.set_cons_succ]
    refine wpAnyH_take (i := 2) (oi := ⟨some 32, _, _, _, _, _⟩) (v := ?_) rfl (by kernel_rfl) (by kernel_rfl) (by kernel_rfl) (fun _ _ _ h => h) (Or.inl ⟨by rfl, ?_⟩) (by assumption) ?_
    rotate_left 1
    · (intro w hSw; (try dsimp only at hSw); obtain ⟨hSa, hSb⟩ := hSw; go_simp) <;> (with_reducible rfl)
    try simp only [Act.put, List.setIfInBounds_toArray, List.set_cons_zero, List.set_cons_succ]
    refine wpAnyH_take (i := 3) (oi := ⟨some 33, _, _, _, _, _⟩) (v := ?_) rfl (by kernel_rfl) (by kernel_rfl) (by kernel_rfl) (fun _ _ _ h => h) (Or.inl ⟨by rfl, ?_⟩) (by assumption) ?_
    rotate_left 1
    · (intro w hSw; (try dsimp only at hSw); obtain ⟨hSa, hSb⟩ := hSw; go_simp) <;> (with_reducible rfl)
    try simp only [Act.put, List.setIfInBounds_toArray, List.set_cons_zero, List.set_cons_succ]
    refine wpAnyH_take (i := 4) (oi := ⟨some 34, _, _, _, _, _⟩) (v := ?_) rfl (by kernel_rfl) (by kernel_rfl) (by kernel_rfl) (fun _ _ _ h => h) (Or.inl ⟨by rfl, ?_⟩) (by assumption) ?_
    rotate_left 1
    · (intro w hSw; (try dsimp only at hSw); obtain ⟨hSa, hSb⟩ := hSw; go_simp) <;> (with_reducible rfl)
    try simp only [Act.put, List.setIfInBounds_toArray, List.set_cons_zero, List.set_cons_succ]
    refine wpAnyH_take (i := 6) (oi := ⟨some 36, _, _, _, _, _⟩) (v := ?_) rfl (by kernel_rfl) (by kernel_rfl) (by kernel_rfl) (fun _ _ _ h => h) (Or.inl ⟨by rfl, ?_⟩) (by assumption) ?_
    rotate_left 1
    · (intro w hSw; (try dsimp only at hSw); obtain ⟨hSa, hSb⟩ := hSw; go_simp) <;> (with_reducible rfl)
    try simp only [Act.put, List.setIfInBounds_toArray, List.set_cons_zero, List.set_cons_succ]
    refine wpAnyH_take (i := 7) (oi := ⟨some 37, _, _, _, _, _⟩) (v := ?_) rfl (by kernel_rfl) (by kernel_rfl) (by kernel_rfl) (fun _ _ _ h => h) (Or.inl ⟨by rfl, ?_⟩) (by assumption) ?_
    rotate_left 1
    · (intro w hSw; (try dsimp only at hSw); obtain ⟨hSa, hSb⟩ := hSw; go_simp) <;> (with_reducible rfl)
    try simp only [Act.put, List.setIfInBounds_toArray, List.set_cons_zero, List.set_cons_succ]
    refine wpAnyH_take (i := 8) (oi := ⟨some 38, _, _, _, _, _⟩) (v := ?_) rfl (by kernel_rfl) (by kernel_rfl) (by kernel_rfl) (fun _ _ _ h => h) (Or.inl ⟨by rfl, ?_⟩) (by assumption) ?_
    rotate_left 1
    · (intro w hSw; (try dsimp only at hSw); obtain ⟨hSa, hSb⟩ := hSw; go_simp) <;> (with_reducible rfl)
    try simp only [Act.put, List.setIfInBounds_toArray, List.set_cons_zero, List.set_cons_succ]
    refine wpAnyH_take (i := 9) (oi := ⟨some 39, _, _, _, _, _⟩) (v := ?_) rfl (by kernel_rfl) (by kernel_rfl) (by kernel_rfl) (fun _ _ _ h => h) (Or.inl ⟨by rfl, ?_⟩) (by assumption) ?_
    rotate_left 1
    · (intro w hSw; (try dsimp only at hSw); obtain ⟨hSa, hSb⟩ := hSw; go_simp) <;> (with_reducible rfl)
    try simp only [Act.put, List.setIfInBounds_toArray, List.set_cons_zero, List.set_cons_succ]
    refine wpAnyH_take (i := 10) (oi := ⟨some 40, _, _, _, _, _⟩) (v := ?_) rfl (by kernel_rfl) (by kernel_rfl) (by kernel_rfl) (fun _ _ _ h => h) (Or.inl ⟨by rfl, ?_⟩) (by assumption) ?_
    rotate_left 1
    · (intro w hSw; (try dsimp only at hSw); obtain ⟨hSa, hSb⟩ := hSw; go_simp) <;> (with_reducible rfl)
    try simp only [Act.put, List.setIfInBounds_toArray, List.set_cons_zero, List.set_cons_succ]
    refine wpAnyH_ready (rs := [5]) (by kernel_rfl) (by simp) ?_
    refine AllReadyH.cons (o := ⟨some 35, _, _, _, _, _⟩) rfl (fun K hK => ?_) AllReadyH.nil
    go_simp
    go_at_call 9
    refine (HLE.out _ (HL5.out.nofr (Fr.refl _ _).drew).ch).mono ?_
    rintro e w6 ⟨rfl, t6, ht6, hc6, hf6⟩
    have HT6 := Lib.hid ht6
    have HL6 := Lib.hid ((HL5.out.nofr (Fr.refl _ _).drew).learn hc6 hf6)
    have HB6 := Lib.hid ((HBX.out.fr (Fr.refl NoBlk _).drew fun h => h).fr hf6 (fun e => by exact bk_km_ne HBX.out HL5.out.ch.km e))
    clear ht6 hc6 hf6 hHeld
    refine hK.out _ _ ?_ (fun hHeld => ?_)
    · exact ⟨(sOf.out _ HB6.out).1, (sOf.out _ HB6.out).2.1⟩
    clear hK K
    try simp only [Act.put, List.setIfInBounds_toArray, List.set_cons_zero, List.set_cons_succ]
    refine wpAnyH_ready (rs := [11]) (by kernel_rfl) (by simp) ?_
    refine AllReadyH.cons (o := ⟨some 41, _, _, _, _, _⟩) rfl (fun K hK => ?_) AllReadyH.nil
    go_simp
    go_at_call 10
    refine (HRE.out _ HL6.out.rf).mono ?_
    rintro e w7 ⟨rfl, hr7, hf7⟩
    have HL7 := Lib.hid (HL6.out.rlearn hr7 hf7)
    have HB7 := Lib.hid (HB6.out.fr hf7 (fun e => by exact Bk.apart HB6.out HL6.out.rf (by decide) e))
    clear hr7 hf7 hHeld
    refine hK.out _ _ ?_ (fun hHeld => ?_)
    · exact ⟨(sOf.out _ HB7.out).1, (sOf.out _ HB7.out).2.1⟩
    clear hK K
    try simp only [Act.put, List.setIfInBounds_toArray, List.set_cons_zero, List.set_cons_succ]
    refine wpAnyH_take (i := 12) (oi := ⟨some 42, _, _, _, _, _⟩) (v := ?_) rfl (by kernel_rfl) (by kernel_rfl) (by kernel_rfl) (fun _ _ _ h => h) (Or.inl ⟨by rfl, ?_⟩) (by assumption) ?_
    rotate_left 1
    · (intro w hSw; (try dsimp only at hSw); obtain ⟨hSa, hSb⟩ := hSw; go_simp) <;> (with_reducible rfl)
    try simp only [Act.put, List.setIfInBounds_toArray, List.set_cons_zero, List.set_cons_succ]
    refine wpAnyH_take (i := 13) (oi := ⟨some 43, _, _, _, _, _⟩) (v := ?_) rfl (by kernel_rfl) (by kernel_rfl) (by kernel_rfl) (fun _ _ _ h => h) (Or.inl ⟨by rfl, ?_⟩) (by assumption) ?_
    rotate_left 1
    · (intro w hSw; (try dsimp only at hSw); obtain ⟨hSa, hSb⟩ := hSw; go_simp) <;> (with_reducible rfl)
    try simp only [Act.put, List.setIfInBounds_toArray, List.set_cons_zero, List.set_cons_succ]
    refine wpAnyH_take (i := 14) (oi := ⟨some 44, _, _, _, _, _⟩) (v := ?_) rfl (by kernel_rfl) (by kernel_rfl) (by kernel_rfl) (fun _ _ _ h => h) (Or.inl ⟨by rfl, ?_⟩) (by assumption) ?_
    rotate_left 1
    · (intro w hSw; (try dsimp only at hSw); obtain ⟨hSa, hSb⟩ := hSw; go_simp) <;> (with_reducible rfl)
    try simp only [Act.put, List.setIfInBounds_toArray, List.set_cons_zero, List.set_cons_succ]
    refine wpAnyH_take (i := 16) (oi := ⟨some 46, _, _, _, _, _⟩) (v := ?_) rfl (by kernel_rfl) (by kernel_rfl) (by kernel_rfl) (fun _ _ _ h => h) (Or.inl ⟨by rfl, ?_⟩) (by assumption) ?_
    rotate_left 1
    · (intro w hSw; (try dsimp only at hSw); obtain ⟨hSa, hSb⟩ := hSw; go_simp) <;> (with_reducible rfl)
    try simp only [Act.put, List.setIfInBounds_toArray, List.set_cons_zero, List.set_cons_succ]
    refine wpAnyH_ready (rs := [15]) (by kernel_rfl) (by simp) ?_
    refine AllReadyH.cons (o := ⟨some 45, _, _, _, _, _⟩) rfl (fun K hK => ?_) AllReadyH.nil
    go_simp
    go_at_call 11
    refine (lenS_seq _ _ _ _ _ _ HL7.out.ch).mono ?_
    rintro e w8 ⟨rfl, hf8⟩
    have HL8 := Lib.hid (HL7.out.nofr hf8)
    have HB8 := Lib.hid (HB7.out.fr hf8 fun h => h)
    clear hf8 hHeld
    refine hK.out _ _ ?_ (fun hHeld => ?_)
    · exact ⟨(sOf.out _ HB8.out).1, (sOf.out _ HB8.out).2.1⟩
    clear hK K
    try simp only [Act.put, List.setIfInBounds_toArray, List.set_cons_zero, List.set_cons_succ]
    refine wpAnyH_ready (rs := [17]) (by kernel_rfl) (by simp) ?_
    refine AllReadyH.cons (o := ⟨some 47, _, _, _, _, _⟩) rfl (fun K hK => ?_) AllReadyH.nil
    go_simp
    go_at_call 12
    refine (rlen_any _ _ _ HL8.out.ch.dom HL8.out.rf).mono ?_
    rintro e w9 ⟨rfl, hw9⟩
    subst hw9
    have HL9 := HL8
    have HB9 := HB8
    clear hHeld
    refine hK.out _ _ ?_ (fun hHeld => ?_)
    · exact ⟨(sOf.out _ HB9.out).1, (sOf.out _ HB9.out).2.1⟩
    clear hK K
    try simp only [Act.put, List.setIfInBounds_toArray, List.set_cons_zero, List.set_cons_succ]
    refine wpAnyH_take (i := 18) (oi := ⟨some 48, _, _, _, _, _⟩) (v := ?_) rfl (by kernel_rfl) (by kernel_rfl) (by kernel_rfl) (fun _ _ _ h => h) (Or.inl ⟨by rfl, ?_⟩) (by assumption) ?_
    rotate_left 1
    · (intro w hSw; (try dsimp only at hSw); obtain ⟨hSa, hSb⟩ := hSw; go_simp) <;> (with_reducible rfl)
    try simp only [Act.put, List.setIfInBounds_toArray, List.set_cons_zero, List.set_cons_succ]
    refine wpAnyH_take (i := 19) (oi := ⟨some 49, _, _, _, _, _⟩) (v := ?_) rfl (by kernel_rfl) (by kernel_rfl) (by kernel_rfl) (fun _ _ _ h => h) (Or.inl ⟨by rfl, ?_⟩) (by assumption) ?_
    rotate_left 1
    · (intro w hSw; (try dsimp only at hSw); obtain ⟨hSa, hSb⟩ := hSw; go_simp) <;> (with_reducible rfl)
    try simp only [Act.put, List.setIfInBounds_toArray, List.set_cons_zero, List.set_cons_succ]
    refine wpAnyH_done (by kernel_rfl) ?_ _
    clear hHeld
    have c0 := (sOf.out _ HB9.out).1
    have c1 := (sOf.out _ HB9.out).2.1
    have c2 := (sOf.out _ HB9.out).2.2.1
    have c3 := (sOf.out _ HB9.out).2.2.2
    go_wp2_with fail
    have HG := Lib.hid fun W h => getS_any W w.heap.size gc bm t6 m2 h xf HXI.out.2.1
    have HRG := Lib.hid fun W h => rget_any W gr m2 HD2.out h xf
    have HFM := Lib.hid fun W h => fromS_any W w.heap.size gc bm t6 m2 h xf xm HXI.out.2.1
    have HRF := Lib.hid fun W h => rfrom_any W gr m2 HD2.out h xf xm
    obtain ⟨z, hz⟩ : ∃ z : ByteArray, ((m2 xf).map evS).getD (Value.string { data := #[] }) = .string z := by
      cases m2 xf with
      | none => exact ⟨_, rfl⟩
      | some u => exact ⟨u, rfl⟩
    rw [hz] at HG HRG
    obtain ⟨ok, hok⟩ : ∃ ok, ok = (m2 xf).isSome := ⟨_, rfl⟩
    rw [← hok] at HG HRG
    obtain ⟨L, hL⟩ : ∃ L, L = (seqV m2 xf).take xm.toNat := ⟨_, rfl⟩
    rw [← hL] at HFM HRF
    have HLL : Hid (L.length ≤ 64) := by
      show _ ≤ _
      rw [hL, List.length_take, seqV, List.length_map]
      have := ((seqM_whole HD2.out xf).1.len HD2.out).1
      omega
    obtain ⟨ln, hln⟩ : ∃ ln, ln = L.length := ⟨_, rfl⟩
    rw [← hln] at HFM HRF HLL
    have HLN := Lib.hid hln
    clear hz hok hL hln
    refine (HG.out _ HL9.out.ch).mono ?_
    rintro e w10 ⟨rfl, hw10⟩
    subst hw10
    go_wp2_with fail
    refine (HRG.out _ HL9.out.rf).mono ?_
    rintro e w11 ⟨rfl, hw11⟩
    subst hw11
    clear HG HRG
    go_wp2_with fail
    clear c0 c1 c2 c3
    refine wp_region_held_drew (S := fun w' => w'.cell? ⟨ob, 2, none⟩ = some (.int .i64 xf) ∧ w'.cell? ⟨ob, 3, none⟩ = some (.int .i64 xm)) (by kernel_rfl) ⟨(sOf.out _ (Bk.fr HB9.out (Fr.refl NoBlk _).drew fun h => h)).2.2.1, (sOf.out _ (Bk.fr HB9.out (Fr.refl NoBlk _).drew fun h => h)).2.2.2⟩ (fun hHeld => ?_)
    refine wpAnyH_take (i := 0) (oi := ⟨some 64, _, _, _, _, _⟩) (v := ?_) rfl (by kernel_rfl) (by kernel_rfl) (by kernel_rfl) (fun _ _ _ h => h) (Or.inl ⟨by rfl, ?_⟩) (by assumption) ?_
    rotate_left 1
    · (intro w hSw; (try dsimp only at hSw); obtain ⟨hSa, hSb⟩ := hSw; go_simp) <;> (with_reducible rfl)
    try simp only [Act.put, List.setIfInBounds_toArray, List.set_cons_zero, List.set_cons_succ]
    refine wpAnyH_take (i := 1) (oi := ⟨some 65, _, _, _, _, _⟩) (v := ?_) rfl (by kernel_rfl) (by kernel_rfl) (by kernel_rfl) (fun _ _ _ h => h) (Or.inl ⟨by rfl, ?_⟩) (by assumption) ?_
    rotate_left 1
    · (intro w hSw; (try dsimp only at hSw); obtain ⟨hSa, hSb⟩ := hSw; go_simp) <;> (with_reducible rfl)
    try simp only [Act.put, List.setIfInBounds_toArray, List.set_cons_zero, List.set_cons_succ]
    refine wpAnyH_take (i := 2) (oi := ⟨some 66, _, _, _, _, _⟩) (v := ?_) rfl (by kernel_rfl) (by kernel_rfl) (by kernel_rfl) (fun _ _ _ h => h) (Or.inl ⟨by rfl, ?_⟩) (by assumption) ?_
    rotate_left 1
    · (intro w hSw; (try dsimp only at hSw); obtain ⟨hSa, hSb⟩ := hSw; go_simp) <;> (with_reducible rfl)
    try simp only [Act.put, List.setIfInBounds_toArray, List.set_cons_zero, List.set_cons_succ]
    refine wpAnyH_take (i := 3) (oi := ⟨some 67, _, _, _, _, _⟩) (v := ?_) rfl (by kernel_rfl) (by kernel_rfl) (by kernel_rfl) (fun _ _ _ h => h) (Or.inl ⟨by rfl, ?_⟩) (by assumption) ?_
    rotate_left 1
    · (intro w hSw; (try dsimp only at hSw); obtain ⟨hSa, hSb⟩ := hSw; go_simp) <;> (with_reducible rfl)
    try simp only [Act.put, List.setIfInBounds_toArray, List.set_cons_zero, List.set_cons_succ]
    refine wpAnyH_take (i := 4) (oi := ⟨some 68, _, _, _, _, _⟩) (v := ?_) rfl (by kernel_rfl) (by kernel_rfl) (by kernel_rfl) (fun _ _ _ h => h) (Or.inl ⟨by rfl, ?_⟩) (by assumption) ?_
    rotate_left 1
    · (intro w hSw; (try dsimp only at hSw); obtain ⟨hSa, hSb⟩ := hSw; go_simp) <;> (with_reducible rfl)
    try simp only [Act.put, List.setIfInBounds_toArray, List.set_cons_zero, List.set_cons_succ]
    refine wpAnyH_take (i := 6) (oi := ⟨some 70, _, _, _, _, _⟩) (v := ?_) rfl (by kernel_rfl) (by kernel_rfl) (by kernel_rfl) (fun _ _ _ h => h) (Or.inl ⟨by rfl, ?_⟩) (by assumption) ?_
    rotate_left 1
    · (intro w hSw; (try dsimp only at hSw); obtain ⟨hSa, hSb⟩ := hSw; go_simp) <;> (with_reducible rfl)
    try simp only [Act.put, List.setIfInBounds_toArray, List.set_cons_zero, List.set_cons_succ]
    refine wpAnyH_take (i := 7) (oi := ⟨some 71, _, _, _, _, _⟩) (v := ?_) rfl (by kernel_rfl) (by kernel_rfl) (by kernel_rfl) (fun _ _ _ h => h) (Or.inl ⟨by rfl, ?_⟩) (by assumption) ?_
    rotate_left 1
    · (intro w hSw; (try dsimp only at hSw); obtain ⟨hSa, hSb⟩ := hSw; go_simp) <;> (with_reducible rfl)
    try simp only [Act.put, List.setIfInBounds_toArray, List.set_cons_zero, List.set_cons_succ]
    refine wpAnyH_take (i := 8) (oi := ⟨some 72, _, _, _, _, _⟩) (v := ?_) rfl (by kernel_rfl) (by kernel_rfl) (by kernel_rfl) (fun _ _ _ h => h) (Or.inl ⟨by rfl, ?_⟩) (by assumption) ?_
    rotate_left 1
    · (intro w hSw; (try dsimp only at hSw); obtain ⟨hSa, hSb⟩ := hSw; go_simp) <;> (with_reducible rfl)
    try simp only [Act.put, List.setIfInBounds_toArray, List.set_cons_zero, List.set_cons_succ]
    refine wpAnyH_take (i := 9) (oi := ⟨some 73, _, _, _, _, _⟩) (v := ?_) rfl (by kernel_rfl) (by kernel_rfl) (by kernel_rfl) (fun _ _ _ h => h) (Or.inl ⟨by rfl, ?_⟩) (by assumption) ?_
    rotate_left 1
    · (intro w hSw; (try dsimp only at hSw); obtain ⟨hSa, hSb⟩ := hSw; go_simp) <;> (with_reducible rfl)
    try simp only [Act.put, List.setIfInBounds_toArray, List.set_cons_zero, List.set_cons_succ]
    refine wpAnyH_take (i := 10) (oi := ⟨some 74, _, _, _, _, _⟩) (v := ?_) rfl (by kernel_rfl) (by kernel_rfl) (by kernel_rfl) (fun _ _ _ h => h) (Or.inl ⟨by rfl, ?_⟩) (by assumption) ?_
    rotate_left 1
    · (intro w hSw; (try dsimp only at hSw); obtain ⟨hSa, hSb⟩ := hSw; go_simp) <;> (with_reducible rfl)
    try simp only [Act.put, List.setIfInBounds_toArray, List.set_cons_zero, List.set_cons_succ]
    refine wpAnyH_ready (rs := [5]) (by kernel_rfl) (by simp) ?_
    refine AllReadyH.cons (o := ⟨some 69, _, _, _, _, _⟩) rfl (fun K hK => ?_) AllReadyH.nil
    go_simp
    go_at_call 15
    refine (HFM.out _ (HL9.out.nofr (Fr.refl _ _).drew).ch).mono ?_
    rintro e w12 ⟨v1, rfl, ho12, hf12⟩
    have HO12 := Lib.hid ho12
    have HL12 := Lib.hid ((HL9.out.nofr (Fr.refl _ _).drew).nofr hf12)
    have HB12 := Lib.hid ((HB9.out.fr (Fr.refl NoBlk _).drew fun h => h).fr hf12 fun h => h)
    have HF12 := Lib.hid (((Fr.refl NoBlk _).drew).trans hf12)
    clear ho12 hf12 hHeld
    refine hK.out _ _ ?_ (fun hHeld => ?_)
    · exact ⟨(sOf.out _ HB12.out).2.2.1, (sOf.out _ HB12.out).2.2.2⟩
    clear hK K
    try simp only [Act.put, List.setIfInBounds_toArray, List.set_cons_zero, List.set_cons_succ]
    refine wpAnyH_ready (rs := [11]) (by kernel_rfl) (by simp) ?_
    refine AllReadyH.cons (o := ⟨some 75, _, _, _, _, _⟩) rfl (fun K hK => ?_) AllReadyH.nil
    go_simp
    go_at_call 16
    refine (HRF.out _ HL12.out.rf).mono ?_
    rintro e w13 ⟨v2, rfl, ho13, hf13⟩
    have HO13 := Lib.hid ho13
    have HO12' := Lib.hid (own_fr HO12.out hf13 fun _ _ h => h)
    have HL13 := Lib.hid (HL12.out.nofr hf13)
    have HB13 := Lib.hid (HB12.out.fr hf13 fun h => h)
    have HF13 := Lib.hid (HF12.out.trans hf13)
    obtain ⟨A1, c1, rfl, hc1, hA1⟩ := own_form HO12.out
    obtain ⟨A2, c2, rfl, hc2, hA2⟩ := own_form ho13
    clear ho13 hf13 hHeld hA1 hA2
    refine hK.out _ _ ?_ (fun hHeld => ?_)
    · exact ⟨(sOf.out _ HB13.out).2.2.1, (sOf.out _ HB13.out).2.2.2⟩
    clear hK K
    try simp only [Act.put, List.setIfInBounds_toArray, List.set_cons_zero, List.set_cons_succ]
    refine wpAnyH_take (i := 12) (oi := ⟨some 11, _, _, _, _, _⟩) (v := ?_) rfl (by kernel_rfl) (by kernel_rfl) (by kernel_rfl) (fun _ _ _ h => h) (Or.inl ⟨by rfl, ?_⟩) (by assumption) ?_
    rotate_left 1
    · (intro w hSw; (try dsimp only at hSw); obtain ⟨hSa, hSb⟩ := hSw; go_simp) <;> (with_reducible rfl)
    try simp only [Act.put, List.setIfInBounds_toArray, List.set_cons_zero, List.set_cons_succ]
    refine wpAnyH_take (i := 13) (oi := ⟨some 12, _, _, _, _, _⟩) (v := ?_) rfl (by kernel_rfl) (by kernel_rfl) (by kernel_rfl) (fun _ _ _ h => h) (Or.inl ⟨by rfl, ?_⟩) (by assumption) ?_
    rotate_left 1
    · (intro w hSw; (try dsimp only at hSw); obtain ⟨hSa, hSb⟩ := hSw; go_simp) <;> (with_reducible rfl)
    try simp only [Act.put, List.setIfInBounds_toArray, List.set_cons_zero, List.set_cons_succ]
    refine wpAnyH_done (by kernel_rfl) ?_ _
    clear hHeld
    have hl64 := HLL.out
    go_wp2_with fail
    rcases Nat.eq_zero_or_pos ln with h0 | h0
    · subst h0
      have HZ : Hid (∃ m t, PAt w gc bm gr t m m w13 ∧ t ≤ k + 1) := ⟨m2, t6, HL13.out, by have := HT.out; have := HT6.out; omega⟩
      go_wp2_with fail
      go_loopw [93] (fun s wr => s = .int .i64 0 ∧ Hid (w13 = wr)) (fun s _ => 1 - (intOf s).toNat)
      case atStart => exact ⟨rfl, rfl⟩
      case round =>
        obtain ⟨rfl, hw⟩ := hrel
        obtain rfl := hw.out
        clear hw
        go_wp2_with fail
        go_roundw
        case rel => exact ⟨k + 1, by omega, by go_num, HZ⟩
        case measure => simp [intOf]; omega
    · obtain ⟨ga, ca, cura, ea, hga, hca, hba, hcura⟩ := own_bk HO12'.out h0
      obtain ⟨gb, cb, curb, eb, hgb, hcb, hbb, hcurb⟩ := own_bk HO13.out h0
      injection ea with ea1 ea2 ea3
      subst ea1 ea3
      injection eb with eb1 eb2 eb3
      subst eb1 eb3
      have hlt2 : ga < gb := by
        have := (HO12.out.lt ga rfl).2
        omega
      have HGA : Hid (w8.heap.size ≤ ga) := hga
      have HGT := Lib.hid hlt2
      have HBA := Lib.hid hba
      have HBB := Lib.hid hbb
      have HCA := Lib.hid hcura
      have HCB := Lib.hid hcurb
      have hca2 : (ln : Int) ≤ (c1 : Int) := by omega
      have hcb2 : (ln : Int) ≤ (c2 : Int) := by omega
      clear hga hlt2 hba hbb hcura hcurb HO13 HO12' HO12
      go_loopw [93] (fun s wr => ∃ j : Nat, j ≤ ln ∧ s = .int .i64 j ∧ Hid (Fr (fun i => i = ga) w13 wr ∧ ∃ cur, Bk wr ga 9 cur ∧ ∀ (i : Nat) (u : Value), j ≤ i → (L.map evS)[i]? = some u → cur[i]? = some u)) (fun s _ => ln - (intOf s).toNat)
      case atStart => exact ⟨0, Nat.zero_le _, rfl, Fr.refl _ _, _, HBA.out, fun i u _ h => HCA.out i u h⟩
      case round =>
        clear HBA HCA
        obtain ⟨j, hj, rfl, HW⟩ := hrel
        obtain ⟨hfw, cur, hbw, hcw⟩ := HW.out
        have HFW := Lib.hid hfw
        have HBW := Lib.hid hbw
        have HCW := Lib.hid hcw
        have HFN : Hid (Fr NoBlk w8 wr) := HF13.out.step hfw (fun i hi e => by have := HGA.out; omega)
        clear hfw hbw hcw HW
        by_cases hjl : j < ln
        · obtain ⟨z, hz⟩ : ∃ z, L[j]? = some z := ⟨_, List.getElem?_eq_getElem (by rw [← HLN.out]; exact hjl)⟩
          have hzm : (L.map evS)[j]? = some (.string z) := by rw [List.getElem?_map, hz]; rfl
          have c1' : wr.cell? ⟨ga, j, none⟩ = some (.string z) := (HBW.out.cell j).trans (HCW.out j _ (Nat.le_refl _) hzm)
          have c2' : wr.cell? ⟨gb, j, none⟩ = some (.string z) := ((HBB.out.fr HFW.out (fun e => by have := HGT.out; omega)).cell j).trans (HCB.out j _ hzm)
          have e1 : (0 : Int) ≤ (j : Int) := by omega
          have e2 : (j : Int) < (ln : Int) := by omega
          clear hz hzm
          go_wp2_with fail
          go_quiet (fail)
          have HB4 : Hid (Bk (wr.drewN nq) ga 9 cur) := HBW.out
          have c3' : (wr.drewN nq).cell? ⟨ga, j, none⟩ = some (.string z) := c1'
          have f3' : (wr.drewN nq).frozen? ⟨ga, j, none⟩ = false := HB4.out.free j
          have HZ : Hid (Fr (fun i => i = ga) w13 ((wr.drewN nq).setCell ⟨ga, j, none⟩ (.string { data := #[115, 112, 111, 105, 108, 116] })) ∧ ∃ cur, Bk ((wr.drewN nq).setCell ⟨ga, j, none⟩ (.string { data := #[115, 112, 111, 105, 108, 116] })) ga 9 cur ∧ ∀ (i : Nat) (u : Value), j + 1 ≤ i → (L.map evS)[i]? = some u → cur[i]? = some u) := by
            refine ⟨(HFW.out.drewN nq).trans ((Fr.refl (fun i => i = ga) _).setCell (p := ⟨ga, j, none⟩) (fun _ => rfl) _), _, HB4.out.put j _, fun i u hi hu => ?_⟩
            rw [Array.getElem?_setIfInBounds_ne (by omega)]
            exact HCW.out i u (by omega) hu
          clear c1' c2'
          go_wp2_with fail
          go_roundw
          case rel => exact ⟨j + 1, by omega, by go_num, HZ⟩
          case measure => simp [intOf]; omega
        · have HZ : Hid (∃ m t, PAt w gc bm gr t m m wr ∧ t ≤ k + 1) := ⟨m2, t6, HL9.out.nofr HFN.out, by have := HT.out; have := HT6.out; omega⟩
          go_wp2_with fail
          go_roundw
          case rel => exact ⟨k + 1, by omega, by go_num, HZ⟩
          case measure => simp [intOf]; omega

theorem paramsOk : ∀ t ∈ Try.f3.params.toList, Try.prog.readableRec t = true ∧ t < Try.prog.types.size := fun t ht => by
  have h := List.all_eq_true.1 (show (Try.f3.params.toList.all fun t => Try.prog.readableRec t && decide (t < Try.prog.types.size)) = true by kernel_rfl) t ht
  simpa using h

set_option maxRecDepth 100000 in
theorem lifted (os : Os) (started : os.Started) (H : Type) (enc : TypeId × Value → H) :
    ReturnsInHanded {} Try.checked os 3 .any (Rows.learnPlaysSpec.pre6 enc Try.prog Try.f3 Rows.learnPlaysRow.domain false) (Rows.learnPlaysSpec.post enc Try.prog Try.f3 false true false false) := by
  refine returnsInHanded_of_change (C := Try.checked) own started (by kernel_rfl) Try.func3
    (ChangeSpec.witness6 (enc := enc) (C := Try.checked) false ⟨#[], #[.slice none 0 0], []⟩ 8 (by kernel_rfl) (by kernel_rfl) (by kernel_rfl) (by kernel_rfl)) ?_
  intro W base args ds gs before hval0 hW _ _
  have hval : ∀ (j : Nat) t v, Try.f3.params[j]? = some t → args[j]? = some v → Value.okWide Try.prog W .any base t v := hval0
  have hW' := hW
  obtain ⟨p, q, hA0, hV, rfl, _, _⟩ := hW
  have hA : DataW.TrodAll enc Try.prog W 0 (fun _ => true) true Try.f3.params.toList args.toList ds p := hA0
  rw [Try.params3] at hA hval
  obtain ⟨v0, vs0, d0, ds0, p0, q0, hargs, rfl, rfl, h0, r0⟩ := trodAll_cons hA
  obtain ⟨rfl, rfl, rfl⟩ := trodAll_nil r0
  obtain rfl : args = #[v0] := by cases args; simp_all
  obtain ⟨rfl, rfl⟩ := trodVars_none hV
  obtain ⟨A, c, xs, rfl, hr, hx, hxc, hc⟩ := open_lops (hval 0 _ v0 rfl rfl) h0
  have walk := walk W A c xs hr hx (Nat.le_trans hxc hc)
  clear hA0 hval0
  refine walk.mono fun e W' ⟨he, hf⟩ => ?_
  subst he
  exact ⟨_, rfl, law_post laidOut paramsOk rfl rfl Try.underlying4 hW' rfl rfl rfl hf⟩

theorem said : Rows.LearnPlaysSaid :=
  OpenClaim.holds_of_wide 3 Try.f3 rfl rfl rfl rfl rfl rfl rfl ⟨rfl, rfl, rfl, rfl, rfl⟩ rfl rfl rfl rfl rfl (by kernel_rfl) Try.func3 (by kernel_rfl)
    (of_decide_eq_true (by kernel_rfl)) (by unfold Func.isWrapper; first | (rw [if_pos (by decide +kernel)]; kernel_rfl) | (rw [if_neg (by decide +kernel)]; exact ⟨rfl, rfl⟩))
    (fun os started H enc _ => lifted os started H enc)
end Go.Proofs.Ytpldfdeikcaenaa.learnPlays
