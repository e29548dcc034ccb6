/- LearnLoops is true: a loop over what is known tells the places from 0 on, with their values, and ends where the loop does. No condition. -/
import Derived.Test.YtpldfdeikcaenaaOps
import Derived.LoopNIn
import Derived.LoopIn
namespace Go.Proofs.Ytpldfdeikcaenaa.learnLoops
open Go.ChangeShapes Go.WideShapes Go.ChangeAt Go.RowKit Go.Maps Go.Shelf
attribute [local go_sem] Oper.semAt_some

theorem _root_.Go.Proofs.Ytpldfdeikcaenaa.ChS.low {w : World} {B B' gc bm s : Nat} {m : Int → Option ByteArray} (h : ChS w B gc bm s m) (hb : B' ≤ B) : ChS w B' gc bm s m := ⟨h.bk, h.km, h.dom, Nat.le_trans hb h.b1, Nat.le_trans hb h.b2⟩
/-- what stands in memory behind the script's beginning: most in the box h, the result in the box h + 1, the program's Chosen (m) and the document's (m2), the latter behind the box gp. -/
structure LAt (w : World) (h gc bm gr gp : Nat) (most : Int) (t : Nat) (m m2 : Int → Option ByteArray) (W : World) : Prop where
  ch : ChS W (h + 2) gc bm t m
  rf : RefC W gr m2
  pt : Bk W gp 26 #[.pointer (some ⟨gr, 0, none⟩)]
  mo : Bk W h 3 #[.int .i64 most]
  re : Bk W (h + 1) 4 #[.bool false]
  fr : Fr NoBlk w W
  sz : w.heap.size = h
  g1 : h + 2 ≤ gr
  g2 : h + 2 ≤ gp
section
variable {w : World} {h gc bm gr gp : Nat} {most : Int} {t : Nat} {m m2 : Int → Option ByteArray} {W W' : World}
theorem LAt.nofr (k : LAt w h gc bm gr gp most t m m2 W) (hf : Fr NoBlk W W') : LAt w h gc bm gr gp most t m m2 W' :=
  ⟨k.ch.nofr hf, k.rf.fr hf fun h => h, k.pt.fr hf fun h => h, k.mo.fr hf fun h => h, k.re.fr hf fun h => h, k.fr.trans hf, k.sz, k.g1, k.g2⟩
theorem LAt.others {row : Option Nat} (k : LAt w h gc bm gr gp most t m m2 W) (hg : W.grownBy W' row) (hr : ∀ r, row = some r → h ≤ r ∧ r ≠ bm ∧ ∃ o : Obj, W.heap[r]? = some o ∧ o.isCells = false) : LAt w h gc bm gr gp most t m m2 W' := by
  have hr2 : ∀ r, row = some r → ∃ o : Obj, W.heap[r]? = some o ∧ o.isCells = false := fun r e => (hr r e).2.2
  refine ⟨⟨k.ch.bk.others hg hr2, k.ch.km.fr (Fr.ofGrown hg) (fun e => (hr bm e.symm).2.1 rfl), k.ch.dom, k.ch.b1, k.ch.b2⟩, Bk.others k.rf hg hr2, k.pt.others hg hr2, k.mo.others hg hr2, k.re.others hg hr2, k.fr.grown hg (fun r e hl => by have := (hr r e).1; have := k.sz; omega), k.sz, k.g1, k.g2⟩
theorem LAt.learn (k : LAt w h gc bm gr gp most t m m2 W) {t' : Nat} {m' : Int → Option ByteArray} (hc : ChS W' (h + 2) gc bm t' m') (hf : Fr (fun j => j = bm) W W') : LAt w h gc bm gr gp most t' m' m2 W' :=
  ⟨hc, k.rf.fr hf (fun e => bk_km_ne k.rf k.ch.km e), k.pt.fr hf (fun e => bk_km_ne k.pt k.ch.km e), k.mo.fr hf (fun e => bk_km_ne k.mo k.ch.km e), k.re.fr hf (fun e => bk_km_ne k.re k.ch.km e), k.fr.step hf (fun i hi e => by have := k.sz; have := k.ch.b2; omega), k.sz, k.g1, k.g2⟩
theorem LAt.rlearn (k : LAt w h gc bm gr gp most t m m2 W) {m' : Int → Option ByteArray} (hc : RefC W' gr m') (hf : Fr (fun j => j = gr) W W') : LAt w h gc bm gr gp most t m m' W' :=
  ⟨k.ch.fr hf (fun e => Bk.apart k.ch.bk k.rf (by decide) e) (fun e => bk_km_ne k.rf k.ch.km e.symm), hc, k.pt.fr hf (fun e => Bk.apart k.pt k.rf (by decide) e), k.mo.fr hf (fun e => Bk.apart k.mo k.rf (by decide) e), k.re.fr hf (fun e => Bk.apart k.re k.rf (by decide) e), k.fr.step hf (fun i hi e => by have := k.sz; have := k.g1; omega), k.sz, k.g1, k.g2⟩
/-- a cell of another box is written. -/
theorem LAt.set (k : LAt w h gc bm gr gp most t m m2 W) {g : Nat} (hg : h + 2 ≤ g ∧ g ≠ gc ∧ g ≠ bm ∧ g ≠ gr ∧ g ≠ gp) (u : Value) : LAt w h gc bm gr gp most t m m2 (W.setCell ⟨g, 0, none⟩ u) := by
  have hf : Fr (fun j => j = g) W (W.setCell ⟨g, 0, none⟩ u) := (Fr.refl (fun j => j = g) W).setCell (p := ⟨g, 0, none⟩) (fun _ => rfl) _
  obtain ⟨h1, h2, h3, h4, h5⟩ := hg
  exact ⟨k.ch.fr hf (fun e => h2 e.symm) (fun e => h3 e.symm), k.rf.fr hf (fun e => h4 e.symm), k.pt.fr hf (fun e => h5 e.symm), k.mo.fr hf (by omega), k.re.fr hf (by omega), k.fr.step hf (fun i hi e => by have := k.sz; omega), k.sz, k.g1, k.g2⟩
end
/-- a range over a function, the round's act said by what becomes of the act's slots. -/
theorem rangeF {F : Fence} {n : Nat} {P : Program} {α : Type} {g : Operand} {ps : Array Tmp} {assign body : Code} {Q : Exit → Act → World → Prop} {a : Act} {w : World} (upd : Array Value → α → Array Value)
    (hro : F.round = none) (h1 : 1 ≤ n) {gf : Nat} {lb : Array Value} (hg : a.eval g = .func (.func gf) #[] lb) (hFg : F.fn gf) (eg : ∀ args w, (callFunc gf args).run P w = .ok (.enter gf args) w)
    {encs : α → Array Value} {Kp : World → World → Prop} {S Sp : List α → Prop} {N : Nat} {w0 : World} (hseq : SeqStopsK F (n - 1) P gf lb encs Kp S Sp N w0)
    (hKt : ∀ {A B C : World}, Kp A B → Kp B C → Kp A C) (hKb : ∀ (W : World) (l : Nat) (o o' : Obj), w.heap.size ≤ l → W.heap[l]? = some o → o.isCells = false → o.isWalk = false → Kp W (W.putObj l o')) (hb0 : Below w0.heap.size w0 w) (hps : ∀ x, (encs x).size = ps.size)
    (I : List α → World → Prop) (Ix : Code → List α → World → Prop) (hI : OwnFrom w.heap.size I) (hIx : ∀ c, OwnFrom w.heap.size (Ix c)) (h0 : I [] w)
    (hassign : ∀ (l : Nat) (x : α) (W : World) (K : Act → World → Prop), K { tmps := upd a.tmps x, defers := [] } W →
      assign.wpIn (F.inRound l) (n - 1 - 1) P (Exit.then K (fun _ _ _ => False)) { tmps := (ps.zip (encs x)).foldl (fun t (p, v) => t.setIfInBounds p v) a.tmps, defers := [] } W)
    (hbody : ∀ (l : Nat) (pre : List α) (x : α) (W : World), I pre W → pre.length < N → body.wpIn (F.inRound l) (n - 1 - 1) P (ownPostK Kp I Ix (pre ++ [x]) W) { tmps := upd a.tmps x, defers := [] } W)
    (hdone : ∀ (D : Nat) (xs : List α) (W : World), w.heap.size ≤ D → S xs → I xs W → W.heap[D]? = some (.deferred (some [])) → Q .normal { a with defers := { target := .collected D, args := #[] } :: a.defers } W)
    (hstop : ∀ (D : Nat) (c : Code) (pre : List α) (W : World), w.heap.size ≤ D → Sp pre → Ix c pre W → W.heap[D]? = some (.deferred (some [])) → c.wpIn F n P Q { a with defers := { target := .collected D, args := #[] } :: a.defers } W) :
    (Code.rangeFunc g ps assign body).wpIn F n P Q a w :=
  wpIn_rangeFunc_ownF hro h1 hg hFg eg hseq hKt hKb hb0 hps I Ix hI hIx h0 (fun x => { tmps := upd a.tmps x, defers := [] }) hassign hbody hdone hstop
def onlyN (Q : Act → World → Prop) : Exit → Act → World → Prop
  | .normal, a, w => Q a w
  | _, _, _ => False
theorem wp_onlyN {P : Program} {c : Code} {Q : Exit → Act → World → Prop} {a : Act} {w : World} (h : c.wp P (onlyN (Q .normal)) a w) : c.wp P Q a w :=
  wp_mono h fun e _ _ h => by cases e <;> first | exact h | exact h.elim
theorem Bk.drew {w : World} {g : Nat} {t : TypeId} {cs : Array Value} (h : Bk w g t cs) : Bk w.drew g t cs := h
theorem load_bool {w : World} {a : Addr} {v : Value} (hc : w.cell? a = some v) : (loadVar 4 a).run Try.prog w = .ok v w := by
  simp [loadVar, isAgg, run_underlying Try.underlying4, hc, Result.andThen]
theorem res_cell {fn : Func} {p : Tmp} {ty : TypeId} (h : fn.results = #[.cell p ty]) {tmps : Array Value} {P : Program} {w : World} {a : Addr} {v : Value} (hp : tmps.getD p undef = .pointer (some a)) (hl : (loadVar ty a).run P w = .ok v w) :
    (results fn tmps).run P w = .ok v w := by
  have hp' : tmps[p]?.getD undef = .pointer (some a) := by simpa using hp
  simp [results, h, hp', asAddr, hl]
set_option maxRecDepth 100000 in
theorem zeroR (w : World) : (zeroValue 30).run Try.prog w = .ok (.agg (refCells fun _ => none)) w := by kernel_rfl

set_option maxRecDepth 100000 in
set_option maxHeartbeats 4000000 in
theorem walk (w : World) (A : Option Addr) (c : Nat) (xs : List LOp) (most : Int) (hr : Rd w A (lops xs)) (hx : ∀ x ∈ xs, LOpIn x) (hm : xs.length ≤ maxLen) :
    Calls Try.prog 4 #[.slice A xs.length c, .int .i64 most] w fun e w' => e = .returned (.bool true) ∧ Fr NoBlk w w' := by
  obtain ⟨h, hh⟩ : ∃ h, h = w.heap.size := ⟨_, rfl⟩
  have HF0 : Hid (Fr NoBlk w ((w.alloc (.cells #[.int .i64 most] 3)).alloc (.cells #[.bool false] 4))) := ((Fr.refl _ _).alloc _).alloc _
  have HM0 : Hid (Bk ((w.alloc (.cells #[.int .i64 most] 3)).alloc (.cells #[.bool false] 4)) h 3 #[.int .i64 most]) := by
    show Bk _ _ _ _
    rw [hh]
    exact (Bk.new _ _ _).alloc _
  have hsz : (w.alloc (.cells #[.int .i64 most] 3)).heap.size = h + 1 := by rw [World.size_alloc, hh]
  have HR0 : Hid (Bk ((w.alloc (.cells #[.int .i64 most] 3)).alloc (.cells #[.bool false] 4)) (h + 1) 4 #[.bool false]) := by
    show Bk _ _ _ _
    rw [← hsz]
    exact Bk.new _ _ _
  have HZ0 : Hid (((w.alloc (.cells #[.int .i64 most] 3)).alloc (.cells #[.bool false] 4)).heap.size = h + 2) := by
    show _ = _
    rw [World.size_alloc, hsz]
  have HR := Lib.hid hr
  have HX := Lib.hid hx
  have HM := Lib.hid hm
  have HH := Lib.hid hh
  clear hr hx hsz
  unfold maxLen at hm
  refine (callsIn_wide (n := 9)).1 ?_
  refine callsIn_of_wp_marks Try.func4 rfl trivial ?_ rfl
  simp only [Try.ntmps4, List.size_toArray, List.length_cons, List.length_nil, Nat.reduceAdd, Nat.reduceSub, Array.replicate_succ, Array.replicate_zero, List.push_toArray, List.append_toArray, List.nil_append, List.cons_append]
  refine wpIn_wide.2 ?_
  obtain ⟨w0, hw0⟩ : ∃ w0, w0 = (w.alloc (.cells #[.int .i64 most] 3)).alloc (.cells #[.bool false] 4) := ⟨_, rfl⟩
  rw [← hw0] at HF0 HM0 HR0 HZ0
  go_wp2_with fail
  rw [← hw0, ← hh]
  clear hw0 hh
  refine (speaks_any _).mono ?_
  rintro e w1 ⟨rfl, hf1⟩
  have HF1 := Lib.hid (HF0.out.trans hf1)
  have HM1 := Lib.hid (HM0.out.fr hf1 fun h => h)
  have HR1 := Lib.hid (HR0.out.fr hf1 fun h => h)
  have HZ1 : Hid (h + 2 ≤ w1.heap.size) := by show _ ≤ _; rw [← HZ0.out]; exact hf1.size
  clear hf1 HF0 HM0 HR0 HZ0
  by_cases h300 : 300 < xs.length
  · have hrc : w1.cell? ⟨h + 1, 0, none⟩ = some (.bool false) := HR1.out.cell 0
    have hrf := HR1.out.free 0
    have hfs : Fr (fun j => j = h + 1) w1 (w1.setCell ⟨h + 1, 0, none⟩ (.bool true)) := (Fr.refl (fun j => j = h + 1) w1).setCell (p := ⟨h + 1, 0, none⟩) (fun _ => rfl) _
    have HC1 := Lib.hid ((HR1.out.put 0 (.bool true)).cell 0)
    have HFS : Hid (Fr NoBlk w (w1.setCell ⟨h + 1, 0, none⟩ (.bool true))) := HF1.out.step hfs (fun i hi e => by have := HH.out; omega)
    clear hfs
    go_wp2_with fail
    refine ⟨_, res_cell rfl rfl (load_bool HC1.out), rfl, HFS.out⟩
  go_wp2_with fail
  refine (newS_any w1).mono ?_
  rintro e w2 ⟨gc, bm, rfl, hc2, hf2⟩
  have HC2 := Lib.hid hc2
  have HF2 := Lib.hid (HF1.out.trans hf2)
  have HM2 := Lib.hid (HM1.out.fr hf2 fun h => h)
  have HR2 := Lib.hid (HR1.out.fr hf2 fun h => h)
  have HZ2 : Hid (h + 2 ≤ w2.heap.size) := by show _ ≤ _; have := HZ1.out; have := hf2.size; omega
  clear hf2 hc2 HF1 HM1 HR1
  have hz := zeroR w2
  obtain ⟨Z, hZ⟩ : ∃ Z, Z = refCells (fun _ => none) := ⟨_, rfl⟩
  rw [← hZ] at hz
  have HZZ := Lib.hid hZ
  clear hZ
  obtain ⟨gr, hgr⟩ : ∃ gr, gr = w2.heap.size := ⟨_, rfl⟩
  obtain ⟨w3, hw3⟩ : ∃ w3, w3 = (w2.alloc (.cells Z 30)).alloc (.cells #[.pointer (some ⟨w2.heap.size, 0, none⟩)] 26) := ⟨_, rfl⟩
  have H3 : Hid (LAt w h gc bm gr (gr + 1) most 0 (fun _ => none) (fun _ => none) w3) := by
    have hf : Fr NoBlk w2 w3 := by rw [hw3]; exact ((Fr.refl _ _).alloc _).alloc _
    have hz2 := HZ2.out
    refine ⟨(HC2.out.nofr hf).low HZ1.out, ?_, ?_, HM2.out.fr hf fun h => h, HR2.out.fr hf fun h => h, HF2.out.trans hf, HH.out.symm, by omega, by omega⟩
    · rw [hw3, hgr]
      show Bk _ _ _ _
      rw [← HZZ.out]
      exact (Bk.new _ _ _).alloc _
    · have hb := Bk.new (w2.alloc (.cells Z 30)) 26 #[.pointer (some ⟨w2.heap.size, 0, none⟩)]
      rw [World.size_alloc, ← hw3, ← hgr] at hb
      exact hb
  go_wp2_with fail
  rw [← hw3, ← hgr]
  clear hw3 hgr HC2 HF2 HM2 HR2 HZ1 HZ2 hz HZZ
  go_loopw [24] (fun s wr => ∃ i : Nat, i ≤ xs.length ∧ s = .int .i64 i ∧ Hid (∃ m t, LAt w h gc bm gr (gr + 1) most t m m wr ∧ t ≤ i)) (fun s _ => xs.length - (intOf s).toNat)
  case atStart => exact ⟨0, Nat.zero_le _, rfl, _, 0, H3.out, Nat.le_refl _⟩
  case round =>
    clear H3
    obtain ⟨k, hk, rfl, HE⟩ := hrel
    obtain ⟨m, t, hl, ht⟩ := HE.out
    have HL := Lib.hid hl
    have HT := Lib.hid ht
    clear hl ht HE
    by_cases hlt : k < xs.length
    · obtain ⟨x, hx⟩ : ∃ x, xs[k]? = some x := ⟨_, List.getElem?_eq_getElem hlt⟩
      obtain ⟨b, o, rfl, d0, d1, d2, d3⟩ := (HR.out.nofr HL.out.fr).lop hx
      have HXI := Lib.hid (HX.out x (List.mem_of_getElem? hx))
      clear hx
      obtain ⟨xsl, xv, xf, xm⟩ := x
      have HW : Hid (Fr NoBlk wr (wr.alloc (.cells (lopa ⟨xsl, xv, xf, xm⟩) 32))) := (Fr.refl _ _).alloc _
      have HBX : Hid (Bk (wr.alloc (.cells (lopa ⟨xsl, xv, xf, xm⟩) 32)) wr.heap.size 32 (lopa ⟨xsl, xv, xf, xm⟩)) := Bk.new _ _ _
      have HL5 := Lib.hid (HL.out.nofr HW.out)
      have HLE := Lib.hid (learnS_any _ (h + 2) gc bm t m HL5.out.ch (by have := HT.out; omega) xsl HXI.out.1 xv)
      have HRE := Lib.hid fun W hh => rlearn_any W gr m hh xsl xv
      unfold lopa at HW HBX HLE HL5
      unfold evS at HLE
      dsimp only at d0 d1 d2 d3 HW HBX HLE HL5
      generalize learnM m xsl xv = m2 at *
      generalize freeB m xsl = fb at *
      go_wp2_with fail
      refine HLE.out.mono ?_
      clear HLE
      rintro e w6 ⟨rfl, t6, ht6, hc6, hf6⟩
      have HL6 := Lib.hid (HL5.out.learn hc6 hf6)
      have HT6 := Lib.hid ht6
      have HB6 : Hid (Bk w6 wr.heap.size 32 #[.int .i64 xsl, .string xv, .int .i64 xf, .int .i64 xm]) := HBX.out.fr hf6 (fun e => by exact bk_km_ne HBX.out HL5.out.ch.km e)
      have c0 : w6.cell? ⟨wr.heap.size, 0, none⟩ = some (.int .i64 xsl) := HB6.out.cell 0
      have c1 : w6.cell? ⟨wr.heap.size, 1, none⟩ = some (.string xv) := HB6.out.cell 1
      have c2 : w6.cell? ⟨gr + 1, 0, none⟩ = some (.pointer (some ⟨gr, 0, none⟩)) := HL6.out.pt.cell 0
      have HRX := Lib.hid (HRE.out w6 HL6.out.rf)
      clear hc6 ht6 hf6 HRE HB6 HBX
      go_wp2_with fail
      refine HRX.out.mono ?_
      clear HRX
      rintro e w7 ⟨rfl, hr7, hf7⟩
      have HZ : Hid (∃ m t, LAt w h gc bm gr (gr + 1) most t m m w7 ∧ t ≤ k + 1) := ⟨m2, t6, HL6.out.rlearn hr7 hf7, by have := HT.out; have := HT6.out; omega⟩
      clear hr7 hf7 c0 c1 c2
      go_wp2_with fail
      go_roundw
      case rel => exact ⟨k + 1, by omega, by go_num, HZ⟩
      case measure => simp [intOf]; omega
    · go_wp2_with fail
      refine (allS_any _ gc).mono ?_
      rintro e w5 ⟨rfl, hw5⟩
      obtain ⟨gn, hgn⟩ : ∃ gn, gn = wr.heap.size := ⟨_, rfl⟩
      have hsz4 : (wr.alloc (.cells #[.int .i64 0] 3)).heap.size = gn + 1 := by rw [World.size_alloc, hgn]
      rw [hsz4]
      have hb50 : Bk w5 gn 3 #[.int .i64 0] := by rw [hw5, hgn]; exact ((Bk.new _ _ _).alloc _).alloc _
      have hb51 : Bk w5 (gn + 1) 24 #[.pointer (some ⟨gc, 0, none⟩)] := by
        rw [hw5, ← hsz4]
        exact (Bk.new _ _ _).alloc _
      have hb52 : Bk w5 (gn + 1 + 1) 3 #[.int .i64 0] := by
        rw [hw5, ← hsz4]
        have h := Bk.new ((wr.alloc (.cells #[.int .i64 0] 3)).alloc (.cells #[.pointer (some ⟨gc, 0, none⟩)] 24)) 3 #[.int .i64 0]
        rw [World.size_alloc (wr.alloc (.cells #[.int .i64 0] 3))] at h
        exact h
      have hf5 : Fr NoBlk wr w5 := by rw [hw5]; exact (((Fr.refl NoBlk wr).alloc _).alloc _).alloc _
      have hs5 : w5.heap.size = gn + 1 + 1 + 1 := by rw [hw5, World.size_alloc, World.size_alloc, hsz4]
      have HL5 := Lib.hid (HL.out.nofr hf5)
      have hbl : gc < gn ∧ bm < gn ∧ gr < gn ∧ gr + 1 < gn ∧ h + 1 < gn := by
        have s1 := HL.out.ch.bk.lt
        have s2 := HL.out.ch.km.lt
        have s3 := Bk.lt HL.out.rf
        have s4 := HL.out.pt.lt
        have s5 := HL.out.re.lt
        omega
      have HBL := Lib.hid hbl
      have HN0 : Hid (Bk w5 gn 3 #[.int .i64 ((0 : Nat) : Int)]) := hb50
      have HST := Lib.hid (behindS_stops 8 (gn + 1 + 1) (gn + 1) (by omega) (fun i => i < gn ∨ i = gn + 1 ∨ i = gn + 1 + 1) (h + 2) gc bm t m 0 (wf64_of (by omega)) (.inr (.inr rfl)) (.inr (.inl rfl)) (.inl hbl.1) (.inl hbl.2.1) w5 HL5.out.ch hb52.lt hb51.lt (hb52.cell 0) (hb51.cell 0))
      have HKK : Hid (∀ k, (k < gn ∨ k = gn + 1 ∨ k = gn + 1 + 1) → k < w5.heap.size) := fun k hk => by omega
      rw [← hgn]
      clear hb50 hb51 hb52 hf5 hgn hsz4 hw5 hbl
      go_wp2_with fail
      refine (wpIn_wide (n := 9)).1 ?_
      refine rangeF (fun T (x : PlS m) => (((T.setIfInBounds 43 (.int .i64 x.1.1)).setIfInBounds 44 (evS x.1.2)).setIfInBounds 10 (.int .i64 x.1.1)).setIfInBounds 11 (evS x.1.2)) rfl (by omega) (gf := 25) (lb := #[.pointer (some ⟨gn + 1 + 1, 0, none⟩), .pointer (some ⟨gn + 1, 0, none⟩)]) rfl trivial (enters_of Try.func25 (by kernel_rfl) rfl)
        HST.out (fun h k => h.t k) (Keep.b HKK.out) (Below.refl _ _) (fun _ => rfl)
        (fun pre W => LAt w h gc bm gr (gr + 1) most t m m W ∧ Bk W gn 3 #[.int .i64 pre.length] ∧ (pre.length : Int) ≤ most.toNat)
        (fun c pre W => (c = .exit 2 ∧ most ≤ (pre.dropLast.length : Int) ∧ (pre.dropLast.length : Int) ≤ most.toNat ∧ LAt w h gc bm gr (gr + 1) most t m m W ∧ Bk W gn 3 #[.int .i64 pre.dropLast.length]) ∨ ¬ Told m 0 (pre.map (·.1)))
        (fun s W W' row hs hg hr => ⟨hs.1.others hg fun r e => ⟨by have := (hr r e).1; have := HBL.out; omega, by have := (hr r e).1; have := HBL.out; omega, (hr r e).2⟩, hs.2.1.others hg fun r e => (hr r e).2, hs.2.2⟩)
        (fun c s W W' row hs hg hr => hs.imp (fun hs => ⟨hs.1, hs.2.1, hs.2.2.1, hs.2.2.2.1.others hg fun r e => ⟨by have := (hr r e).1; have := HBL.out; omega, by have := (hr r e).1; have := HBL.out; omega, (hr r e).2⟩, hs.2.2.2.2.others hg fun r e => (hr r e).2⟩) id)
        ⟨HL5.out, HN0.out, Int.natCast_nonneg _⟩ ?assign ?body ?done ?stop
      case assign =>
        intro l' x W K hK
        simp only [List.setIfInBounds_toArray, List.set_cons_zero, List.set_cons_succ] at hK
        simp
        gi_wp2
        exact hK
      case body =>
        rintro l' pre x W ⟨hl, hb, hle⟩ hlen
        simp only [List.setIfInBounds_toArray, List.set_cons_zero, List.set_cons_succ]
        have HL6 := Lib.hid hl
        have HB6 := Lib.hid hb
        have c1 := hb.cell 0
        have c2 : W.cell? ⟨h, 0, none⟩ = some (.int .i64 most) := hl.mo.cell 0
        have c3 : W.cell? ⟨gr + 1, 0, none⟩ = some (.pointer (some ⟨gr, 0, none⟩)) := hl.pt.cell 0
        have c4 : W.cell? ⟨h + 1, 0, none⟩ = some (.bool false) := hl.re.cell 0
        have f1 := hb.free 0
        have f2 : W.frozen? ⟨h + 1, 0, none⟩ = false := hl.re.free 0
        obtain ⟨q, hq⟩ : ∃ q, q = pre.length := ⟨_, rfl⟩
        rw [← hq] at c1
        have HQ := Lib.hid hq
        have HLE := Lib.hid hle
        have HLEN := Lib.hid hlen
        have HTD : Hid (Told m 0 ((pre ++ [x]).map (·.1)) → x.1.1 = (q : Int)) := fun ht => by
          have h1 := ht pre.length x.1 (by rw [List.map_append, List.getElem?_append_right (by simp)]; simp)
          rw [h1.1, hq, Int.zero_add]
        have hxv := x.2
        obtain ⟨sl, hsl0⟩ : ∃ sl, sl = x.1.1 := ⟨_, rfl⟩
        obtain ⟨v, hv0⟩ : ∃ v, v = x.1.2 := ⟨_, rfl⟩
        rw [← hsl0, ← hv0] at hxv
        rw [← hsl0] at HTD
        rw [← hsl0, ← hv0]
        have HXV := Lib.hid hxv
        unfold evS
        clear hl hb hle hq hlen hxv hsl0 hv0
        by_cases hmost : most ≤ (q : Int)
        · gi_wp2
          refine ⟨KeepsOthers.refl _, .inl ⟨rfl, ?_, ?_, HL6.out, ?_⟩⟩
          · rw [List.dropLast_concat, ← HQ.out]; exact hmost
          · rw [List.dropLast_concat]; exact HLE.out
          · rw [List.dropLast_concat]; exact HB6.out
        · by_cases hsl : sl = (q : Int)
          · subst hsl
            have hq64 : q < 64 := by
              have := HL6.out.ch.dom _ (by rw [HXV.out]; exact fun e => by cases e)
              omega
            have d0 : W.cell? ⟨gr, q, none⟩ = some (.bool (m q).isSome) := (HL6.out.rf.cell q).trans (refCells_known m hq64)
            have d1 : W.cell? ⟨gr, 64 + q, none⟩ = some (.string ((m q).getD ByteArray.empty)) := (HL6.out.rf.cell _).trans (refCells_value m hq64)
            rw [HXV.out] at d0 d1
            simp only [Option.isSome_some, Option.getD_some] at d0 d1
            have hwr : IntKind.i64.wrap ((q : Int) + 1) = (q : Int) + 1 := IntWalk.i64_in _ (by omega)
            have e1 : ¬ ((63 : Int) < (q : Int)) := by omega
            have e2 : (0 : Int) ≤ (q : Int) := by omega
            have e3 : (q : Int) < 64 := by omega
            gi_wp2
            have hst : LAt w h gc bm gr (gr + 1) most t m m (W.setCell ⟨gn, 0, none⟩ (.int .i64 ((q : Int) + 1))) := HL6.out.set (by have := HBL.out; have := HL6.out.ch.b1; have := HL6.out.g1; omega) _
            refine ⟨KeepsOthers.setCell _ _ _, fun i hi => Below.heap_setCell _ _ _ _ (by show i ≠ gn; omega), ?_⟩
            refine ⟨hst, ?_, ?_⟩
            · rw [List.length_append, List.length_singleton, ← HQ.out]
              have h := HB6.out.put 0 (.int .i64 ((q : Int) + 1))
              simpa using h
            · rw [List.length_append, List.length_singleton, ← HQ.out]
              omega
          · have e1 : (sl == (q : Int)) = false := beq_eq_false_iff_ne.2 hsl
            have HNE := Lib.hid hsl
            clear hsl
            gi_wp2
            exact ⟨KeepsOthers.setCell _ _ _, .inr fun ht => HNE.out (HTD.out ht)⟩
      case done =>
        rintro D xs' W hD hS ⟨hl, hb, _⟩ hK
        have HB := Lib.hid hb
        have HL9 := Lib.hid hl
        have HD := Lib.hid hD
        have HKD := Lib.hid hK
        have HRL := Lib.hid (rlen_any W.drew gr m HL9.out.ch.dom (Bk.drew HL9.out.rf))
        obtain ⟨q, hq⟩ : ∃ q, q = xs'.length := ⟨_, rfl⟩
        rw [← hq] at HB
        have HSD : Hid ((W.drew).cell? ⟨gn, 0, none⟩ = some (.int .i64 q) ∧ (W.drew).cell? ⟨gr + 1, 0, none⟩ = some (.pointer (some ⟨gr, 0, none⟩)) ∧ (W.drew).cell? ⟨h, 0, none⟩ = some (.int .i64 most)) := ⟨HB.out.cell 0, HL9.out.pt.cell 0, HL9.out.mo.cell 0⟩
        have hne1 : gn ≠ h + 1 := by have := HBL.out; omega
        have hne2 : gr + 1 ≠ h + 1 := by have := HL9.out.g1; omega
        have hne3 : h ≠ h + 1 := by omega
        have HSE : Hid (((W.drew).setCell ⟨h + 1, 0, none⟩ (.bool true)).cell? ⟨gn, 0, none⟩ = some (.int .i64 q) ∧ ((W.drew).setCell ⟨h + 1, 0, none⟩ (.bool true)).cell? ⟨gr + 1, 0, none⟩ = some (.pointer (some ⟨gr, 0, none⟩)) ∧ ((W.drew).setCell ⟨h + 1, 0, none⟩ (.bool true)).cell? ⟨h, 0, none⟩ = some (.int .i64 most)) := ⟨((Bk.drew HB.out).far hne1 _).cell 0, ((Bk.drew HL9.out.pt).far hne2 _).cell 0, ((Bk.drew HL9.out.mo).far hne3 _).cell 0⟩
        have HRB : Hid (Bk ((W.drew).setCell ⟨h + 1, 0, none⟩ (.bool true)) (h + 1) 4 #[.bool true]) := by
          show Bk _ _ _ _
          have h := (Bk.drew HL9.out.re).put 0 (.bool true)
          simpa using h
        have HFZ : Hid (Fr NoBlk w ((W.drew).setCell ⟨h + 1, 0, none⟩ (.bool true))) := (HL9.out.fr.drew).step ((Fr.refl (fun j => j = h + 1) W.drew).setCell (p := ⟨h + 1, 0, none⟩) (fun _ => rfl) _) (fun i hi e => by have := HH.out; omega)
        have hr1 : (W.drew).cell? ⟨h + 1, 0, none⟩ = some (.bool false) := (Bk.drew HL9.out.re).cell 0
        have hr2 : (W.drew).frozen? ⟨h + 1, 0, none⟩ = false := (Bk.drew HL9.out.re).free 0
        have HKD2 : Hid (((W.drew).setCell ⟨h + 1, 0, none⟩ (.bool true)).heap[D]? = some (.deferred (some []))) := (Below.heap_setCell _ _ _ _ (by show D ≠ h + 1; have := HBL.out; omega)).trans HKD.out
        obtain ⟨n, hn⟩ : ∃ n, n = (seqV m 0).length := ⟨_, rfl⟩
        rw [← hn] at HRL
        have hqn : q = n := by
          have := congrArg List.length (hS.seq HL9.out.ch.dom)
          rw [List.length_map] at this
          rw [hn, seqV, List.length_map, hq, this]
        have e1 : ((q : Int) == (n : Int)) = true := by rw [hqn]; exact beq_self_eq_true _
        clear hqn hS
        clear hb hl hD hK hq hne1 hne2 hne3 hn
        go_wp2_with fail
        refine wp_onlyN ?_
        refine wp_region_held_drew (S := fun w' => w'.cell? ⟨gn, 0, none⟩ = some (.int .i64 q) ∧ w'.cell? ⟨gr + 1, 0, none⟩ = some (.pointer (some ⟨gr, 0, none⟩)) ∧ w'.cell? ⟨h, 0, none⟩ = some (.int .i64 most)) (by kernel_rfl) HSD.out (fun hHeld => ?_)
        refine wpAnyH_take (i := 0) (oi := ⟨some 76, _, _, _, _, _⟩) (v := ?_) rfl (by kernel_rfl) (by kernel_rfl) (by kernel_rfl) (fun _ _ _ h => h) (Or.inl ⟨by rfl, ?_⟩) (by assumption) ?_
        rotate_left 1
        · (intro w hSw; (try dsimp only at hSw); obtain ⟨hSa, hSb, hSc⟩ := hSw; go_simp) <;> (with_reducible rfl)
        try simp only [Act.put, List.setIfInBounds_toArray, List.set_cons_zero, List.set_cons_succ]
        refine wpAnyH_take (i := 1) (oi := ⟨some 77, _, _, _, _, _⟩) (v := ?_) rfl (by kernel_rfl) (by kernel_rfl) (by kernel_rfl) (fun _ _ _ h => h) (Or.inl ⟨by rfl, ?_⟩) (by assumption) ?_
        rotate_left 1
        · (intro w hSw; (try dsimp only at hSw); obtain ⟨hSa, hSb, hSc⟩ := hSw; go_simp) <;> (with_reducible rfl)
        try simp only [Act.put, List.setIfInBounds_toArray, List.set_cons_zero, List.set_cons_succ]
        refine wpAnyH_ready (rs := [2]) (by kernel_rfl) (by simp) ?_
        refine AllReadyH.cons (o := ⟨some 78, _, _, _, _, _⟩) rfl (fun K hK => ?_) AllReadyH.nil
        go_simp
        go_at_call 12
        refine HRL.out.mono ?_
        rintro e w8 ⟨rfl, hw8⟩
        subst hw8
        clear hHeld
        refine hK.out _ _ ?_ (fun hHeld => ?_)
        · exact HSD.out
        clear hK K
        try simp only [Act.put, List.setIfInBounds_toArray, List.set_cons_zero, List.set_cons_succ]
        refine wpAnyH_take (i := 3) (oi := ⟨some 79, _, _, _, _, _⟩) (v := ?_) rfl (by kernel_rfl) (by kernel_rfl) (by kernel_rfl) (fun _ _ _ h => h) (Or.inl ⟨by rfl, ?_⟩) (by assumption) ?_
        rotate_left 1
        · (intro w hSw; (try dsimp only at hSw); obtain ⟨hSa, hSb, hSc⟩ := hSw; go_simp) <;> (with_reducible rfl)
        try simp only [Act.put, List.setIfInBounds_toArray, List.set_cons_zero, List.set_cons_succ]
        refine wpAnyH_take (i := 4) (oi := ⟨some 80, _, _, _, _, _⟩) (v := ?_) rfl (by kernel_rfl) (by kernel_rfl) (by kernel_rfl) (fun _ _ _ h => h) (Or.inl ⟨by rfl, ?_⟩) (by assumption) ?_
        rotate_left 1
        · (intro w hSw; (try dsimp only at hSw); obtain ⟨hSa, hSb, hSc⟩ := hSw; go_simp) <;> (with_reducible rfl)
        try simp only [Act.put, List.setIfInBounds_toArray, List.set_cons_zero, List.set_cons_succ]
        refine wpAnyH_take (i := 5) (oi := ⟨some 81, _, _, _, _, _⟩) (v := undef) rfl (by kernel_rfl) (by kernel_rfl) (by kernel_rfl) (fun _ _ _ h => h) (Or.inr ⟨by rfl, rfl⟩) (by assumption) ?_
        try simp only [Act.put, List.setIfInBounds_toArray, List.set_cons_zero, List.set_cons_succ]
        refine wpAnyH_take (i := 6) (oi := ⟨some 82, _, _, _, _, _⟩) (v := undef) rfl (by kernel_rfl) (by kernel_rfl) (by kernel_rfl) (fun _ _ _ h => h) (Or.inr ⟨by rfl, rfl⟩) (by assumption) ?_
        try simp only [Act.put, List.setIfInBounds_toArray, List.set_cons_zero, List.set_cons_succ]
        refine wpAnyH_take (i := 7) (oi := ⟨some 83, _, _, _, _, _⟩) (v := undef) rfl (by kernel_rfl) (by kernel_rfl) (by kernel_rfl) (fun _ _ _ h => h) (Or.inr ⟨by rfl, rfl⟩) (by assumption) ?_
        try simp only [Act.put, List.setIfInBounds_toArray, List.set_cons_zero, List.set_cons_succ]
        refine wpAnyH_take (i := 8) (oi := ⟨some 84, _, _, _, _, _⟩) (v := ?_) rfl (by kernel_rfl) (by kernel_rfl) (by kernel_rfl) (fun _ _ _ h => h) (Or.inl ⟨by rfl, ?_⟩) (by assumption) ?_
        rotate_left 1
        · (intro w hSw; (try dsimp only at hSw); obtain ⟨hSa, hSb, hSc⟩ := hSw; go_simp) <;> (with_reducible rfl)
        try simp only [Act.put, List.setIfInBounds_toArray, List.set_cons_zero, List.set_cons_succ]
        refine wpAnyH_take (i := 9) (oi := ⟨some 85, _, _, _, _, _⟩) (v := ?_) rfl (by kernel_rfl) (by kernel_rfl) (by kernel_rfl) (fun _ _ _ h => h) (Or.inl ⟨by rfl, ?_⟩) (by assumption) ?_
        rotate_left 1
        · (intro w hSw; (try dsimp only at hSw); obtain ⟨hSa, hSb, hSc⟩ := hSw; go_simp) <;> (with_reducible rfl)
        try simp only [Act.put, List.setIfInBounds_toArray, List.set_cons_zero, List.set_cons_succ]
        refine wpAnyH_take (i := 10) (oi := ⟨some 86, _, _, _, _, _⟩) (v := undef) rfl (by kernel_rfl) (by kernel_rfl) (by kernel_rfl) (fun _ _ _ h => h) (Or.inr ⟨by rfl, rfl⟩) (by assumption) ?_
        try simp only [Act.put, List.setIfInBounds_toArray, List.set_cons_zero, List.set_cons_succ]
        refine wpAnyH_take (i := 11) (oi := ⟨some 87, _, _, _, _, _⟩) (v := undef) rfl (by kernel_rfl) (by kernel_rfl) (by kernel_rfl) (fun _ _ _ h => h) (Or.inr ⟨by rfl, rfl⟩) (by assumption) ?_
        try simp only [Act.put, List.setIfInBounds_toArray, List.set_cons_zero, List.set_cons_succ]
        refine wpAnyH_take (i := 12) (oi := ⟨some 88, _, _, _, _, _⟩) (v := ?_) rfl (by kernel_rfl) (by kernel_rfl) (by kernel_rfl) (fun _ _ _ h => h) (Or.inl ⟨by rfl, ?_⟩) (by assumption) ?_
        rotate_left 1
        · (intro w hSw; (try dsimp only at hSw); obtain ⟨hSa, hSb, hSc⟩ := hSw; go_simp) <;> (with_reducible rfl)
        try simp only [Act.put, List.setIfInBounds_toArray, List.set_cons_zero, List.set_cons_succ]
        refine wpAnyH_ready (rs := [13]) (by kernel_rfl) (by simp) ?_
        refine AllReadyH.cons (o := ⟨none, _, _, _, _, _⟩) rfl (fun K hK => ?_) AllReadyH.nil
        clear hHeld
        go_simp
        refine hK.out _ _ ?_ (fun hHeld => ?_)
        · exact HSE.out
        clear hK K hHeld
        try simp only [Act.put, List.setIfInBounds_toArray, List.set_cons_zero, List.set_cons_succ]
        refine wpAnyH_done (by kernel_rfl) ?_ _
        unfold onlyN
        dsimp only
        have e0 : ((W.drew).setCell ⟨h + 1, 0, none⟩ (.bool true)).heap[D]? = some (.deferred (some [])) := HKD2.out
        go_wp2_with fail
        have hfin : Fr NoBlk w (((W.drew).setCell ⟨h + 1, 0, none⟩ (.bool true)).putObj D (.deferred none)) := HFZ.out.grown (grownBy_putObj' _ D _) fun r e hl => by
          cases e
          have := HD.out
          have := HH.out
          have := HBL.out
          omega
        have hrb : Bk (((W.drew).setCell ⟨h + 1, 0, none⟩ (.bool true)).putObj D (.deferred none)) (h + 1) 4 #[.bool true] := HRB.out.others (grownBy_putObj' _ D _) fun r e => by cases e; exact ⟨_, HKD2.out, rfl⟩
        refine ⟨by simp, .inl ⟨_, _, rfl, run_takeDeferred HKD2.out, ?_⟩⟩
        exact ⟨_, res_cell rfl rfl (load_bool (hrb.cell 0)), rfl, hfin⟩
      case stop =>
        rintro D c' pre W hD hS hI hK
        rcases hI with ⟨rfl, hge, hle, hl, hb⟩ | hno
        rotate_left
        · exact absurd hS hno
        refine wpIn_wide.2 ?_
        have HB := Lib.hid hb
        have HL9 := Lib.hid hl
        have HD := Lib.hid hD
        have HKD := Lib.hid hK
        have HRL := Lib.hid (rlen_any W.drew gr m HL9.out.ch.dom (Bk.drew HL9.out.rf))
        obtain ⟨q, hq⟩ : ∃ q, q = pre.dropLast.length := ⟨_, rfl⟩
        rw [← hq] at HB
        have HSD : Hid ((W.drew).cell? ⟨gn, 0, none⟩ = some (.int .i64 q) ∧ (W.drew).cell? ⟨gr + 1, 0, none⟩ = some (.pointer (some ⟨gr, 0, none⟩)) ∧ (W.drew).cell? ⟨h, 0, none⟩ = some (.int .i64 most)) := ⟨HB.out.cell 0, HL9.out.pt.cell 0, HL9.out.mo.cell 0⟩
        have hne1 : gn ≠ h + 1 := by have := HBL.out; omega
        have hne2 : gr + 1 ≠ h + 1 := by have := HL9.out.g1; omega
        have hne3 : h ≠ h + 1 := by omega
        have HSE : Hid (((W.drew).setCell ⟨h + 1, 0, none⟩ (.bool true)).cell? ⟨gn, 0, none⟩ = some (.int .i64 q) ∧ ((W.drew).setCell ⟨h + 1, 0, none⟩ (.bool true)).cell? ⟨gr + 1, 0, none⟩ = some (.pointer (some ⟨gr, 0, none⟩)) ∧ ((W.drew).setCell ⟨h + 1, 0, none⟩ (.bool true)).cell? ⟨h, 0, none⟩ = some (.int .i64 most)) := ⟨((Bk.drew HB.out).far hne1 _).cell 0, ((Bk.drew HL9.out.pt).far hne2 _).cell 0, ((Bk.drew HL9.out.mo).far hne3 _).cell 0⟩
        have HRB : Hid (Bk ((W.drew).setCell ⟨h + 1, 0, none⟩ (.bool true)) (h + 1) 4 #[.bool true]) := by
          show Bk _ _ _ _
          have h := (Bk.drew HL9.out.re).put 0 (.bool true)
          simpa using h
        have HFZ : Hid (Fr NoBlk w ((W.drew).setCell ⟨h + 1, 0, none⟩ (.bool true))) := (HL9.out.fr.drew).step ((Fr.refl (fun j => j = h + 1) W.drew).setCell (p := ⟨h + 1, 0, none⟩) (fun _ => rfl) _) (fun i hi e => by have := HH.out; omega)
        have hr1 : (W.drew).cell? ⟨h + 1, 0, none⟩ = some (.bool false) := (Bk.drew HL9.out.re).cell 0
        have hr2 : (W.drew).frozen? ⟨h + 1, 0, none⟩ = false := (Bk.drew HL9.out.re).free 0
        have HKD2 : Hid (((W.drew).setCell ⟨h + 1, 0, none⟩ (.bool true)).heap[D]? = some (.deferred (some []))) := (Below.heap_setCell _ _ _ _ (by show D ≠ h + 1; have := HBL.out; omega)).trans HKD.out
        obtain ⟨n, hn⟩ : ∃ n, n = (seqV m 0).length := ⟨_, rfl⟩
        rw [← hn] at HRL
        rw [← hq] at hge hle
        have hor : q = n ∨ (q ≠ n ∧ (q : Int) = most) ∨ (q ≠ n ∧ (q : Int) ≠ most ∧ most < 0) := by omega
        clear hge hle hS
        clear hb hl hD hK hq hne1 hne2 hne3 hn
        rcases hor with h1 | ⟨h1, h2⟩ | ⟨h1, h2, h3⟩
        · have e1 : ((q : Int) == (n : Int)) = true := by rw [h1]; exact beq_self_eq_true _
          clear h1
          go_wp2_with fail
          refine wp_onlyN ?_
          refine wp_region_held_drew (S := fun w' => w'.cell? ⟨gn, 0, none⟩ = some (.int .i64 q) ∧ w'.cell? ⟨gr + 1, 0, none⟩ = some (.pointer (some ⟨gr, 0, none⟩)) ∧ w'.cell? ⟨h, 0, none⟩ = some (.int .i64 most)) (by kernel_rfl) HSD.out (fun hHeld => ?_)
          refine wpAnyH_take (i := 0) (oi := ⟨some 76, _, _, _, _, _⟩) (v := ?_) rfl (by kernel_rfl) (by kernel_rfl) (by kernel_rfl) (fun _ _ _ h => h) (Or.inl ⟨by rfl, ?_⟩) (by assumption) ?_
          rotate_left 1
          · (intro w hSw; (try dsimp only at hSw); obtain ⟨hSa, hSb, hSc⟩ := hSw; go_simp) <;> (with_reducible rfl)
          try simp only [Act.put, List.setIfInBounds_toArray, List.set_cons_zero, List.set_cons_succ]
          refine wpAnyH_take (i := 1) (oi := ⟨some 77, _, _, _, _, _⟩) (v := ?_) rfl (by kernel_rfl) (by kernel_rfl) (by kernel_rfl) (fun _ _ _ h => h) (Or.inl ⟨by rfl, ?_⟩) (by assumption) ?_
          rotate_left 1
          · (intro w hSw; (try dsimp only at hSw); obtain ⟨hSa, hSb, hSc⟩ := hSw; go_simp) <;> (with_reducible rfl)
          try simp only [Act.put, List.setIfInBounds_toArray, List.set_cons_zero, List.set_cons_succ]
          refine wpAnyH_ready (rs := [2]) (by kernel_rfl) (by simp) ?_
          refine AllReadyH.cons (o := ⟨some 78, _, _, _, _, _⟩) rfl (fun K hK => ?_) AllReadyH.nil
          go_simp
          go_at_call 12
          refine HRL.out.mono ?_
          rintro e w8 ⟨rfl, hw8⟩
          subst hw8
          clear hHeld
          refine hK.out _ _ ?_ (fun hHeld => ?_)
          · exact HSD.out
          clear hK K
          try simp only [Act.put, List.setIfInBounds_toArray, List.set_cons_zero, List.set_cons_succ]
          refine wpAnyH_take (i := 3) (oi := ⟨some 79, _, _, _, _, _⟩) (v := ?_) rfl (by kernel_rfl) (by kernel_rfl) (by kernel_rfl) (fun _ _ _ h => h) (Or.inl ⟨by rfl, ?_⟩) (by assumption) ?_
          rotate_left 1
          · (intro w hSw; (try dsimp only at hSw); obtain ⟨hSa, hSb, hSc⟩ := hSw; go_simp) <;> (with_reducible rfl)
          try simp only [Act.put, List.setIfInBounds_toArray, List.set_cons_zero, List.set_cons_succ]
          refine wpAnyH_take (i := 4) (oi := ⟨some 80, _, _, _, _, _⟩) (v := ?_) rfl (by kernel_rfl) (by kernel_rfl) (by kernel_rfl) (fun _ _ _ h => h) (Or.inl ⟨by rfl, ?_⟩) (by assumption) ?_
          rotate_left 1
          · (intro w hSw; (try dsimp only at hSw); obtain ⟨hSa, hSb, hSc⟩ := hSw; go_simp) <;> (with_reducible rfl)
          try simp only [Act.put, List.setIfInBounds_toArray, List.set_cons_zero, List.set_cons_succ]
          refine wpAnyH_take (i := 5) (oi := ⟨some 81, _, _, _, _, _⟩) (v := undef) rfl (by kernel_rfl) (by kernel_rfl) (by kernel_rfl) (fun _ _ _ h => h) (Or.inr ⟨by rfl, rfl⟩) (by assumption) ?_
          try simp only [Act.put, List.setIfInBounds_toArray, List.set_cons_zero, List.set_cons_succ]
          refine wpAnyH_take (i := 6) (oi := ⟨some 82, _, _, _, _, _⟩) (v := undef) rfl (by kernel_rfl) (by kernel_rfl) (by kernel_rfl) (fun _ _ _ h => h) (Or.inr ⟨by rfl, rfl⟩) (by assumption) ?_
          try simp only [Act.put, List.setIfInBounds_toArray, List.set_cons_zero, List.set_cons_succ]
          refine wpAnyH_take (i := 7) (oi := ⟨some 83, _, _, _, _, _⟩) (v := undef) rfl (by kernel_rfl) (by kernel_rfl) (by kernel_rfl) (fun _ _ _ h => h) (Or.inr ⟨by rfl, rfl⟩) (by assumption) ?_
          try simp only [Act.put, List.setIfInBounds_toArray, List.set_cons_zero, List.set_cons_succ]
          refine wpAnyH_take (i := 8) (oi := ⟨some 84, _, _, _, _, _⟩) (v := ?_) rfl (by kernel_rfl) (by kernel_rfl) (by kernel_rfl) (fun _ _ _ h => h) (Or.inl ⟨by rfl, ?_⟩) (by assumption) ?_
          rotate_left 1
          · (intro w hSw; (try dsimp only at hSw); obtain ⟨hSa, hSb, hSc⟩ := hSw; go_simp) <;> (with_reducible rfl)
          try simp only [Act.put, List.setIfInBounds_toArray, List.set_cons_zero, List.set_cons_succ]
          refine wpAnyH_take (i := 9) (oi := ⟨some 85, _, _, _, _, _⟩) (v := ?_) rfl (by kernel_rfl) (by kernel_rfl) (by kernel_rfl) (fun _ _ _ h => h) (Or.inl ⟨by rfl, ?_⟩) (by assumption) ?_
          rotate_left 1
          · (intro w hSw; (try dsimp only at hSw); obtain ⟨hSa, hSb, hSc⟩ := hSw; go_simp) <;> (with_reducible rfl)
          try simp only [Act.put, List.setIfInBounds_toArray, List.set_cons_zero, List.set_cons_succ]
          refine wpAnyH_take (i := 10) (oi := ⟨some 86, _, _, _, _, _⟩) (v := undef) rfl (by kernel_rfl) (by kernel_rfl) (by kernel_rfl) (fun _ _ _ h => h) (Or.inr ⟨by rfl, rfl⟩) (by assumption) ?_
          try simp only [Act.put, List.setIfInBounds_toArray, List.set_cons_zero, List.set_cons_succ]
          refine wpAnyH_take (i := 11) (oi := ⟨some 87, _, _, _, _, _⟩) (v := undef) rfl (by kernel_rfl) (by kernel_rfl) (by kernel_rfl) (fun _ _ _ h => h) (Or.inr ⟨by rfl, rfl⟩) (by assumption) ?_
          try simp only [Act.put, List.setIfInBounds_toArray, List.set_cons_zero, List.set_cons_succ]
          refine wpAnyH_take (i := 12) (oi := ⟨some 88, _, _, _, _, _⟩) (v := ?_) rfl (by kernel_rfl) (by kernel_rfl) (by kernel_rfl) (fun _ _ _ h => h) (Or.inl ⟨by rfl, ?_⟩) (by assumption) ?_
          rotate_left 1
          · (intro w hSw; (try dsimp only at hSw); obtain ⟨hSa, hSb, hSc⟩ := hSw; go_simp) <;> (with_reducible rfl)
          try simp only [Act.put, List.setIfInBounds_toArray, List.set_cons_zero, List.set_cons_succ]
          refine wpAnyH_ready (rs := [13]) (by kernel_rfl) (by simp) ?_
          refine AllReadyH.cons (o := ⟨none, _, _, _, _, _⟩) rfl (fun K hK => ?_) AllReadyH.nil
          clear hHeld
          go_simp
          refine hK.out _ _ ?_ (fun hHeld => ?_)
          · exact HSE.out
          clear hK K hHeld
          try simp only [Act.put, List.setIfInBounds_toArray, List.set_cons_zero, List.set_cons_succ]
          refine wpAnyH_done (by kernel_rfl) ?_ _
          unfold onlyN
          dsimp only
          have e0 : ((W.drew).setCell ⟨h + 1, 0, none⟩ (.bool true)).heap[D]? = some (.deferred (some [])) := HKD2.out
          go_wp2_with fail
          have hfin : Fr NoBlk w (((W.drew).setCell ⟨h + 1, 0, none⟩ (.bool true)).putObj D (.deferred none)) := HFZ.out.grown (grownBy_putObj' _ D _) fun r e hl => by
            cases e
            have := HD.out
            have := HH.out
            have := HBL.out
            omega
          have hrb : Bk (((W.drew).setCell ⟨h + 1, 0, none⟩ (.bool true)).putObj D (.deferred none)) (h + 1) 4 #[.bool true] := HRB.out.others (grownBy_putObj' _ D _) fun r e => by cases e; exact ⟨_, HKD2.out, rfl⟩
          refine ⟨by simp, .inl ⟨_, _, rfl, run_takeDeferred HKD2.out, ?_⟩⟩
          exact ⟨_, res_cell rfl rfl (load_bool (hrb.cell 0)), rfl, hfin⟩
        · have e1 : ((q : Int) == (n : Int)) = false := beq_eq_false_iff_ne.2 (by omega)
          have e2 : ((q : Int) == most) = true := by rw [h2]; exact beq_self_eq_true _
          clear h1 h2
          go_wp2_with fail
          refine wp_onlyN ?_
          refine wp_region_held_drew (S := fun w' => w'.cell? ⟨gn, 0, none⟩ = some (.int .i64 q) ∧ w'.cell? ⟨gr + 1, 0, none⟩ = some (.pointer (some ⟨gr, 0, none⟩)) ∧ w'.cell? ⟨h, 0, none⟩ = some (.int .i64 most)) (by kernel_rfl) HSD.out (fun hHeld => ?_)
          refine wpAnyH_take (i := 0) (oi := ⟨some 76, _, _, _, _, _⟩) (v := ?_) rfl (by kernel_rfl) (by kernel_rfl) (by kernel_rfl) (fun _ _ _ h => h) (Or.inl ⟨by rfl, ?_⟩) (by assumption) ?_
          rotate_left 1
          · (intro w hSw; (try dsimp only at hSw); obtain ⟨hSa, hSb, hSc⟩ := hSw; go_simp) <;> (with_reducible rfl)
          try simp only [Act.put, List.setIfInBounds_toArray, List.set_cons_zero, List.set_cons_succ]
          refine wpAnyH_take (i := 1) (oi := ⟨some 77, _, _, _, _, _⟩) (v := ?_) rfl (by kernel_rfl) (by kernel_rfl) (by kernel_rfl) (fun _ _ _ h => h) (Or.inl ⟨by rfl, ?_⟩) (by assumption) ?_
          rotate_left 1
          · (intro w hSw; (try dsimp only at hSw); obtain ⟨hSa, hSb, hSc⟩ := hSw; go_simp) <;> (with_reducible rfl)
          try simp only [Act.put, List.setIfInBounds_toArray, List.set_cons_zero, List.set_cons_succ]
          refine wpAnyH_ready (rs := [2]) (by kernel_rfl) (by simp) ?_
          refine AllReadyH.cons (o := ⟨some 78, _, _, _, _, _⟩) rfl (fun K hK => ?_) AllReadyH.nil
          go_simp
          go_at_call 12
          refine HRL.out.mono ?_
          rintro e w8 ⟨rfl, hw8⟩
          subst hw8
          clear hHeld
          refine hK.out _ _ ?_ (fun hHeld => ?_)
          · exact HSD.out
          clear hK K
          try simp only [Act.put, List.setIfInBounds_toArray, List.set_cons_zero, List.set_cons_succ]
          refine wpAnyH_take (i := 3) (oi := ⟨some 79, _, _, _, _, _⟩) (v := ?_) rfl (by kernel_rfl) (by kernel_rfl) (by kernel_rfl) (fun _ _ _ h => h) (Or.inl ⟨by rfl, ?_⟩) (by assumption) ?_
          rotate_left 1
          · (intro w hSw; (try dsimp only at hSw); obtain ⟨hSa, hSb, hSc⟩ := hSw; go_simp) <;> (with_reducible rfl)
          try simp only [Act.put, List.setIfInBounds_toArray, List.set_cons_zero, List.set_cons_succ]
          refine wpAnyH_take (i := 4) (oi := ⟨some 80, _, _, _, _, _⟩) (v := ?_) rfl (by kernel_rfl) (by kernel_rfl) (by kernel_rfl) (fun _ _ _ h => h) (Or.inl ⟨by rfl, ?_⟩) (by assumption) ?_
          rotate_left 1
          · (intro w hSw; (try dsimp only at hSw); obtain ⟨hSa, hSb, hSc⟩ := hSw; go_simp) <;> (with_reducible rfl)
          try simp only [Act.put, List.setIfInBounds_toArray, List.set_cons_zero, List.set_cons_succ]
          refine wpAnyH_take (i := 5) (oi := ⟨some 81, _, _, _, _, _⟩) (v := ?_) rfl (by kernel_rfl) (by kernel_rfl) (by kernel_rfl) (fun _ _ _ h => h) (Or.inl ⟨by rfl, ?_⟩) (by assumption) ?_
          rotate_left 1
          · (intro w hSw; (try dsimp only at hSw); obtain ⟨hSa, hSb, hSc⟩ := hSw; go_simp) <;> (with_reducible rfl)
          try simp only [Act.put, List.setIfInBounds_toArray, List.set_cons_zero, List.set_cons_succ]
          refine wpAnyH_take (i := 6) (oi := ⟨some 82, _, _, _, _, _⟩) (v := ?_) rfl (by kernel_rfl) (by kernel_rfl) (by kernel_rfl) (fun _ _ _ h => h) (Or.inl ⟨by rfl, ?_⟩) (by assumption) ?_
          rotate_left 1
          · (intro w hSw; (try dsimp only at hSw); obtain ⟨hSa, hSb, hSc⟩ := hSw; go_simp) <;> (with_reducible rfl)
          try simp only [Act.put, List.setIfInBounds_toArray, List.set_cons_zero, List.set_cons_succ]
          refine wpAnyH_take (i := 7) (oi := ⟨some 83, _, _, _, _, _⟩) (v := ?_) rfl (by kernel_rfl) (by kernel_rfl) (by kernel_rfl) (fun _ _ _ h => h) (Or.inl ⟨by rfl, ?_⟩) (by assumption) ?_
          rotate_left 1
          · (intro w hSw; (try dsimp only at hSw); obtain ⟨hSa, hSb, hSc⟩ := hSw; go_simp) <;> (with_reducible rfl)
          try simp only [Act.put, List.setIfInBounds_toArray, List.set_cons_zero, List.set_cons_succ]
          refine wpAnyH_take (i := 8) (oi := ⟨some 84, _, _, _, _, _⟩) (v := ?_) rfl (by kernel_rfl) (by kernel_rfl) (by kernel_rfl) (fun _ _ _ h => h) (Or.inl ⟨by rfl, ?_⟩) (by assumption) ?_
          rotate_left 1
          · (intro w hSw; (try dsimp only at hSw); obtain ⟨hSa, hSb, hSc⟩ := hSw; go_simp) <;> (with_reducible rfl)
          try simp only [Act.put, List.setIfInBounds_toArray, List.set_cons_zero, List.set_cons_succ]
          refine wpAnyH_take (i := 9) (oi := ⟨some 85, _, _, _, _, _⟩) (v := ?_) rfl (by kernel_rfl) (by kernel_rfl) (by kernel_rfl) (fun _ _ _ h => h) (Or.inl ⟨by rfl, ?_⟩) (by assumption) ?_
          rotate_left 1
          · (intro w hSw; (try dsimp only at hSw); obtain ⟨hSa, hSb, hSc⟩ := hSw; go_simp) <;> (with_reducible rfl)
          try simp only [Act.put, List.setIfInBounds_toArray, List.set_cons_zero, List.set_cons_succ]
          refine wpAnyH_take (i := 10) (oi := ⟨some 86, _, _, _, _, _⟩) (v := undef) rfl (by kernel_rfl) (by kernel_rfl) (by kernel_rfl) (fun _ _ _ h => h) (Or.inr ⟨by rfl, rfl⟩) (by assumption) ?_
          try simp only [Act.put, List.setIfInBounds_toArray, List.set_cons_zero, List.set_cons_succ]
          refine wpAnyH_take (i := 11) (oi := ⟨some 87, _, _, _, _, _⟩) (v := undef) rfl (by kernel_rfl) (by kernel_rfl) (by kernel_rfl) (fun _ _ _ h => h) (Or.inr ⟨by rfl, rfl⟩) (by assumption) ?_
          try simp only [Act.put, List.setIfInBounds_toArray, List.set_cons_zero, List.set_cons_succ]
          refine wpAnyH_take (i := 12) (oi := ⟨some 88, _, _, _, _, _⟩) (v := ?_) rfl (by kernel_rfl) (by kernel_rfl) (by kernel_rfl) (fun _ _ _ h => h) (Or.inl ⟨by rfl, ?_⟩) (by assumption) ?_
          rotate_left 1
          · (intro w hSw; (try dsimp only at hSw); obtain ⟨hSa, hSb, hSc⟩ := hSw; go_simp) <;> (with_reducible rfl)
          try simp only [Act.put, List.setIfInBounds_toArray, List.set_cons_zero, List.set_cons_succ]
          refine wpAnyH_ready (rs := [13]) (by kernel_rfl) (by simp) ?_
          refine AllReadyH.cons (o := ⟨none, _, _, _, _, _⟩) rfl (fun K hK => ?_) AllReadyH.nil
          clear hHeld
          go_simp
          refine hK.out _ _ ?_ (fun hHeld => ?_)
          · exact HSE.out
          clear hK K hHeld
          try simp only [Act.put, List.setIfInBounds_toArray, List.set_cons_zero, List.set_cons_succ]
          refine wpAnyH_done (by kernel_rfl) ?_ _
          unfold onlyN
          dsimp only
          have e0 : ((W.drew).setCell ⟨h + 1, 0, none⟩ (.bool true)).heap[D]? = some (.deferred (some [])) := HKD2.out
          go_wp2_with fail
          have hfin : Fr NoBlk w (((W.drew).setCell ⟨h + 1, 0, none⟩ (.bool true)).putObj D (.deferred none)) := HFZ.out.grown (grownBy_putObj' _ D _) fun r e hl => by
            cases e
            have := HD.out
            have := HH.out
            have := HBL.out
            omega
          have hrb : Bk (((W.drew).setCell ⟨h + 1, 0, none⟩ (.bool true)).putObj D (.deferred none)) (h + 1) 4 #[.bool true] := HRB.out.others (grownBy_putObj' _ D _) fun r e => by cases e; exact ⟨_, HKD2.out, rfl⟩
          refine ⟨by simp, .inl ⟨_, _, rfl, run_takeDeferred HKD2.out, ?_⟩⟩
          exact ⟨_, res_cell rfl rfl (load_bool (hrb.cell 0)), rfl, hfin⟩
        · have e1 : ((q : Int) == (n : Int)) = false := beq_eq_false_iff_ne.2 (by omega)
          have e2 : ((q : Int) == most) = false := beq_eq_false_iff_ne.2 h2
          clear h1 h2
          go_wp2_with fail
          refine wp_onlyN ?_
          refine wp_region_held_drew (S := fun w' => w'.cell? ⟨gn, 0, none⟩ = some (.int .i64 q) ∧ w'.cell? ⟨gr + 1, 0, none⟩ = some (.pointer (some ⟨gr, 0, none⟩)) ∧ w'.cell? ⟨h, 0, none⟩ = some (.int .i64 most)) (by kernel_rfl) HSD.out (fun hHeld => ?_)
          refine wpAnyH_take (i := 0) (oi := ⟨some 76, _, _, _, _, _⟩) (v := ?_) rfl (by kernel_rfl) (by kernel_rfl) (by kernel_rfl) (fun _ _ _ h => h) (Or.inl ⟨by rfl, ?_⟩) (by assumption) ?_
          rotate_left 1
          · (intro w hSw; (try dsimp only at hSw); obtain ⟨hSa, hSb, hSc⟩ := hSw; go_simp) <;> (with_reducible rfl)
          try simp only [Act.put, List.setIfInBounds_toArray, List.set_cons_zero, List.set_cons_succ]
          refine wpAnyH_take (i := 1) (oi := ⟨some 77, _, _, _, _, _⟩) (v := ?_) rfl (by kernel_rfl) (by kernel_rfl) (by kernel_rfl) (fun _ _ _ h => h) (Or.inl ⟨by rfl, ?_⟩) (by assumption) ?_
          rotate_left 1
          · (intro w hSw; (try dsimp only at hSw); obtain ⟨hSa, hSb, hSc⟩ := hSw; go_simp) <;> (with_reducible rfl)
          try simp only [Act.put, List.setIfInBounds_toArray, List.set_cons_zero, List.set_cons_succ]
          refine wpAnyH_ready (rs := [2]) (by kernel_rfl) (by simp) ?_
          refine AllReadyH.cons (o := ⟨some 78, _, _, _, _, _⟩) rfl (fun K hK => ?_) AllReadyH.nil
          go_simp
          go_at_call 12
          refine HRL.out.mono ?_
          rintro e w8 ⟨rfl, hw8⟩
          subst hw8
          clear hHeld
          refine hK.out _ _ ?_ (fun hHeld => ?_)
          · exact HSD.out
          clear hK K
          try simp only [Act.put, List.setIfInBounds_toArray, List.set_cons_zero, List.set_cons_succ]
          refine wpAnyH_take (i := 3) (oi := ⟨some 79, _, _, _, _, _⟩) (v := ?_) rfl (by kernel_rfl) (by kernel_rfl) (by kernel_rfl) (fun _ _ _ h => h) (Or.inl ⟨by rfl, ?_⟩) (by assumption) ?_
          rotate_left 1
          · (intro w hSw; (try dsimp only at hSw); obtain ⟨hSa, hSb, hSc⟩ := hSw; go_simp) <;> (with_reducible rfl)
          try simp only [Act.put, List.setIfInBounds_toArray, List.set_cons_zero, List.set_cons_succ]
          refine wpAnyH_take (i := 4) (oi := ⟨some 80, _, _, _, _, _⟩) (v := ?_) rfl (by kernel_rfl) (by kernel_rfl) (by kernel_rfl) (fun _ _ _ h => h) (Or.inl ⟨by rfl, ?_⟩) (by assumption) ?_
          rotate_left 1
          · (intro w hSw; (try dsimp only at hSw); obtain ⟨hSa, hSb, hSc⟩ := hSw; go_simp) <;> (with_reducible rfl)
          try simp only [Act.put, List.setIfInBounds_toArray, List.set_cons_zero, List.set_cons_succ]
          refine wpAnyH_take (i := 5) (oi := ⟨some 81, _, _, _, _, _⟩) (v := ?_) rfl (by kernel_rfl) (by kernel_rfl) (by kernel_rfl) (fun _ _ _ h => h) (Or.inl ⟨by rfl, ?_⟩) (by assumption) ?_
          rotate_left 1
          · (intro w hSw; (try dsimp only at hSw); obtain ⟨hSa, hSb, hSc⟩ := hSw; go_simp) <;> (with_reducible rfl)
          try simp only [Act.put, List.setIfInBounds_toArray, List.set_cons_zero, List.set_cons_succ]
          refine wpAnyH_take (i := 6) (oi := ⟨some 82, _, _, _, _, _⟩) (v := ?_) rfl (by kernel_rfl) (by kernel_rfl) (by kernel_rfl) (fun _ _ _ h => h) (Or.inl ⟨by rfl, ?_⟩) (by assumption) ?_
          rotate_left 1
          · (intro w hSw; (try dsimp only at hSw); obtain ⟨hSa, hSb, hSc⟩ := hSw; go_simp) <;> (with_reducible rfl)
          try simp only [Act.put, List.setIfInBounds_toArray, List.set_cons_zero, List.set_cons_succ]
          refine wpAnyH_take (i := 7) (oi := ⟨some 83, _, _, _, _, _⟩) (v := ?_) rfl (by kernel_rfl) (by kernel_rfl) (by kernel_rfl) (fun _ _ _ h => h) (Or.inl ⟨by rfl, ?_⟩) (by assumption) ?_
          rotate_left 1
          · (intro w hSw; (try dsimp only at hSw); obtain ⟨hSa, hSb, hSc⟩ := hSw; go_simp) <;> (with_reducible rfl)
          try simp only [Act.put, List.setIfInBounds_toArray, List.set_cons_zero, List.set_cons_succ]
          refine wpAnyH_take (i := 8) (oi := ⟨some 84, _, _, _, _, _⟩) (v := ?_) rfl (by kernel_rfl) (by kernel_rfl) (by kernel_rfl) (fun _ _ _ h => h) (Or.inl ⟨by rfl, ?_⟩) (by assumption) ?_
          rotate_left 1
          · (intro w hSw; (try dsimp only at hSw); obtain ⟨hSa, hSb, hSc⟩ := hSw; go_simp) <;> (with_reducible rfl)
          try simp only [Act.put, List.setIfInBounds_toArray, List.set_cons_zero, List.set_cons_succ]
          refine wpAnyH_take (i := 9) (oi := ⟨some 85, _, _, _, _, _⟩) (v := ?_) rfl (by kernel_rfl) (by kernel_rfl) (by kernel_rfl) (fun _ _ _ h => h) (Or.inl ⟨by rfl, ?_⟩) (by assumption) ?_
          rotate_left 1
          · (intro w hSw; (try dsimp only at hSw); obtain ⟨hSa, hSb, hSc⟩ := hSw; go_simp) <;> (with_reducible rfl)
          try simp only [Act.put, List.setIfInBounds_toArray, List.set_cons_zero, List.set_cons_succ]
          refine wpAnyH_take (i := 10) (oi := ⟨some 86, _, _, _, _, _⟩) (v := ?_) rfl (by kernel_rfl) (by kernel_rfl) (by kernel_rfl) (fun _ _ _ h => h) (Or.inl ⟨by rfl, ?_⟩) (by assumption) ?_
          rotate_left 1
          · (intro w hSw; (try dsimp only at hSw); obtain ⟨hSa, hSb, hSc⟩ := hSw; go_simp) <;> (with_reducible rfl)
          try simp only [Act.put, List.setIfInBounds_toArray, List.set_cons_zero, List.set_cons_succ]
          refine wpAnyH_take (i := 11) (oi := ⟨some 87, _, _, _, _, _⟩) (v := ?_) rfl (by kernel_rfl) (by kernel_rfl) (by kernel_rfl) (fun _ _ _ h => h) (Or.inl ⟨by rfl, ?_⟩) (by assumption) ?_
          rotate_left 1
          · (intro w hSw; (try dsimp only at hSw); obtain ⟨hSa, hSb, hSc⟩ := hSw; go_simp) <;> (with_reducible rfl)
          try simp only [Act.put, List.setIfInBounds_toArray, List.set_cons_zero, List.set_cons_succ]
          refine wpAnyH_take (i := 12) (oi := ⟨some 88, _, _, _, _, _⟩) (v := ?_) rfl (by kernel_rfl) (by kernel_rfl) (by kernel_rfl) (fun _ _ _ h => h) (Or.inl ⟨by rfl, ?_⟩) (by assumption) ?_
          rotate_left 1
          · (intro w hSw; (try dsimp only at hSw); obtain ⟨hSa, hSb, hSc⟩ := hSw; go_simp) <;> (with_reducible rfl)
          try simp only [Act.put, List.setIfInBounds_toArray, List.set_cons_zero, List.set_cons_succ]
          refine wpAnyH_ready (rs := [13]) (by kernel_rfl) (by simp) ?_
          refine AllReadyH.cons (o := ⟨none, _, _, _, _, _⟩) rfl (fun K hK => ?_) AllReadyH.nil
          clear hHeld
          go_simp
          refine hK.out _ _ ?_ (fun hHeld => ?_)
          · exact HSE.out
          clear hK K hHeld
          try simp only [Act.put, List.setIfInBounds_toArray, List.set_cons_zero, List.set_cons_succ]
          refine wpAnyH_done (by kernel_rfl) ?_ _
          unfold onlyN
          dsimp only
          have e0 : ((W.drew).setCell ⟨h + 1, 0, none⟩ (.bool true)).heap[D]? = some (.deferred (some [])) := HKD2.out
          go_wp2_with fail
          have hfin : Fr NoBlk w (((W.drew).setCell ⟨h + 1, 0, none⟩ (.bool true)).putObj D (.deferred none)) := HFZ.out.grown (grownBy_putObj' _ D _) fun r e hl => by
            cases e
            have := HD.out
            have := HH.out
            have := HBL.out
            omega
          have hrb : Bk (((W.drew).setCell ⟨h + 1, 0, none⟩ (.bool true)).putObj D (.deferred none)) (h + 1) 4 #[.bool true] := HRB.out.others (grownBy_putObj' _ D _) fun r e => by cases e; exact ⟨_, HKD2.out, rfl⟩
          refine ⟨by simp, .inl ⟨_, _, rfl, run_takeDeferred HKD2.out, ?_⟩⟩
          exact ⟨_, res_cell rfl rfl (load_bool (hrb.cell 0)), rfl, hfin⟩

theorem paramsOk : ∀ t ∈ Try.f4.params.toList, Try.prog.readableRec t = true ∧ t < Try.prog.types.size := fun t ht => by
  have h := List.all_eq_true.1 (show (Try.f4.params.toList.all fun t => Try.prog.readableRec t && decide (t < Try.prog.types.size)) = true by kernel_rfl) t ht
  simpa using h

set_option maxRecDepth 100000 in
theorem lifted (os : Os) (started : os.Started) (H : Type) (enc : TypeId × Value → H) :
    ReturnsInHanded {} Try.checked os 4 .any (Rows.learnLoopsSpec.pre6 enc Try.prog Try.f4 Rows.learnLoopsRow.domain false) (Rows.learnLoopsSpec.post enc Try.prog Try.f4 false true false false) := by
  refine returnsInHanded_of_change (C := Try.checked) own started (by kernel_rfl) Try.func4
    (ChangeSpec.witness6 (enc := enc) (C := Try.checked) false ⟨#[], #[.slice none 0 0, .int .i64 0], []⟩ 8 (by kernel_rfl) (by kernel_rfl) (by kernel_rfl) (by kernel_rfl)) ?_
  intro W base args ds gs before hval0 hW _ _
  have hval : ∀ (j : Nat) t v, Try.f4.params[j]? = some t → args[j]? = some v → Value.okWide Try.prog W .any base t v := hval0
  have hW' := hW
  obtain ⟨p, q, hA0, hV, rfl, _, _⟩ := hW
  have hA : DataW.TrodAll enc Try.prog W 0 (fun _ => true) true Try.f4.params.toList args.toList ds p := hA0
  rw [Try.params4] at hA hval
  obtain ⟨v0, vs0, d0, ds0, p0, q0, hargs, rfl, rfl, h0, r0⟩ := trodAll_cons hA
  obtain ⟨v1, vs1, d1, ds1, p1, q1, rfl, rfl, rfl, h1, r1⟩ := trodAll_cons r0
  obtain ⟨rfl, rfl, rfl⟩ := trodAll_nil r1
  obtain rfl : args = #[v0, v1] := by cases args; simp_all
  obtain ⟨rfl, rfl⟩ := trodVars_none hV
  obtain ⟨A, c, xs, rfl, hr, hx, hxc, hc⟩ := open_lops (hval 0 _ v0 rfl rfl) h0
  obtain ⟨z1, rfl, rfl, rfl, w1⟩ := open_int Try.underlying3 (hval 1 _ v1 rfl rfl) h1
  have walk := walk W A c xs z1 hr hx (Nat.le_trans hxc hc)
  clear hA0 hval0
  refine walk.mono fun e W' ⟨he, hf⟩ => ?_
  subst he
  exact ⟨_, rfl, law_post laidOut paramsOk rfl rfl Try.underlying4 hW' rfl rfl rfl hf⟩

theorem said : Rows.LearnLoopsSaid :=
  OpenClaim.holds_of_wide 4 Try.f4 rfl rfl rfl rfl rfl rfl rfl ⟨rfl, rfl, rfl, rfl, rfl⟩ rfl rfl rfl rfl rfl (by kernel_rfl) Try.func4 (by kernel_rfl)
    (of_decide_eq_true (by kernel_rfl)) (by unfold Func.isWrapper; first | (rw [if_pos (by decide +kernel)]; kernel_rfl) | (rw [if_neg (by decide +kernel)]; exact ⟨rfl, rfl⟩))
    (fun os started H enc _ => lifted os started H enc)
end Go.Proofs.Ytpldfdeikcaenaa.learnLoops
