/- A net's Take, Drop and Copy. Conditions: the net lies in blocks of its own. -/
import Derived.Test.YtdfmoijomnjdiaaDel
import Derived.Test.YtdfmoijomnjdiaaSnd
namespace Go.Proofs.Ytdfmoijomnjdiaa
open Go.RowKit

theorem results_cell_tmp {fn : Func} {p q : Tmp} {t : TypeId} (h : fn.results = #[.cell p t, .tmp q]) (tmps : Array Value) (P : Program) (w : World) :
    (results fn tmps).run P w = ((asAddr (tmps.getD p undef)).run P w).andThen fun a w₁ => ((loadVar t a).run P w₁).andThen fun v w₂ => .ok (.tuple #[v, tmps.getD q undef]) w₂ := by
  simp only [results, h]
  simp [Sem.run_bind, Result.andThen]
theorem NtIn.some_ {O : Nat → Prop} {W : World} {g : Nat} {a : Option Addr} {c : Nat} {ps : List Pc} (h : NtIn O W g a c ps) (hp : 0 < ps.length) : ∃ q, a = some ⟨q, 0, none⟩ ∧ O q ∧ q ≠ g ∧ Bk W g 51 #[.slice (some ⟨q, 0, none⟩) ps.length c] := by
  rcases h.own.2 with ⟨e, e0⟩ | ⟨q, cap, cur, e, _, hh, _⟩
  · omega
  · injection e with e _ _
    subst e
    exact ⟨q, rfl, h.os q rfl, fun e => Bk.apart (t := 35) hh h.bk (by decide) e, h.bk⟩
/-- where one parcel lies, whatever is made behind it. -/
theorem NtIn.at_ {O : Nat → Prop} {W : World} {g q : Nat} {c : Nat} {ps : List Pc} (h : NtIn O W g (some ⟨q, 0, none⟩) c ps) {j : Nat} {p : Pc} (hp : ps[j]? = some p) :
    W.cell? ⟨q, j * 7, none⟩ = some (.int .i64 p.src) ∧ W.cell? ⟨q, j * 7 + 1, none⟩ = some (.int .i64 p.dst) ∧ W.cell? ⟨q, j * 7 + 2, none⟩ = some (.int .u64 p.ep) ∧ W.cell? ⟨q, j * 7 + 3, none⟩ = some (.int .u64 p.pe) ∧ W.cell? ⟨q, j * 7 + 4, none⟩ = some (.int .u64 p.sq) ∧ W.cell? ⟨q, j * 7 + 5, none⟩ = some (.int .u64 p.ak) ∧ W.cell? ⟨q, j * 7 + 6, none⟩ = some (.slice p.d.1 p.d.2.2.length p.d.2.1) := by
  obtain ⟨b, o, e, hc⟩ := Rd.cat pcc 7 pcc_len (Rd.of_ownN h.own) (by omega) hp
  injection e with e
  injection e with e1 e2
  subst e1 e2
  simp only [Nat.zero_add] at hc
  exact ⟨hc 0 _ rfl, hc 1 _ rfl, hc 2 _ rfl, hc 3 _ rfl, hc 4 _ rfl, hc 5 _ rfl, hc 6 _ rfl⟩
/-- behind Delete and the store of the shorter row. -/
theorem NtIn.taken {O : Nat → Prop} {W w3 : World} {g q : Nat} {c j : Nat} {ps : List Pc} (h : NtIn O W g (some ⟨q, 0, none⟩) c ps) (hj : j < ps.length)
    (ho : w3.ownsRow 0 35 7 (.slice (some ⟨q, 0, none⟩) (ps.length - 1) c) (ps.length - 1) ((pcsc ps).take (j * 7) ++ (pcsc ps).drop ((j + 1) * 7))) (hf : Fr (fun k => k = q) W w3) :
    Bk w3 g 51 #[.slice (some ⟨q, 0, none⟩) ps.length c] ∧ NtIn O (w3.setCell ⟨g, 0, none⟩ (.slice (some ⟨q, 0, none⟩) (ps.length - 1) c)) g (some ⟨q, 0, none⟩) c (ps.eraseIdx j) ∧
      Fr O W (w3.setCell ⟨g, 0, none⟩ (.slice (some ⟨q, 0, none⟩) (ps.length - 1) c)) ∧ ∀ p ∈ ps, PartO O (w3.setCell ⟨g, 0, none⟩ (.slice (some ⟨q, 0, none⟩) (ps.length - 1) c)) p.d := by
  have hq : O q := h.os q rfl
  obtain ⟨_, e, _, hne, _⟩ := h.some_ (by omega)
  injection e with e
  injection e with e
  subst e
  have hb3 : Bk w3 g 51 #[.slice (some ⟨q, 0, none⟩) ps.length c] := h.bk.fr hf (fun e => hne e.symm)
  have hf5 : Fr (fun k => k = g) w3 (w3.setCell ⟨g, 0, none⟩ (.slice (some ⟨q, 0, none⟩) (ps.length - 1) c)) := (Fr.refl (fun k => k = g) w3).setCell (p := ⟨g, 0, none⟩) (fun _ => rfl) _
  have hfo : Fr O W (w3.setCell ⟨g, 0, none⟩ (.slice (some ⟨q, 0, none⟩) (ps.length - 1) c)) := (hf.mono fun k _ e => by rw [e]; exact hq).step hf5 (fun k hk e => by rw [e]; exact h.og)
  have hlen : (ps.eraseIdx j).length = ps.length - 1 := by rw [List.length_eraseIdx, if_pos hj]
  have hpart : ∀ p ∈ ps, PartO O (w3.setCell ⟨g, 0, none⟩ (.slice (some ⟨q, 0, none⟩) (ps.length - 1) c)) p.d := fun p hp =>
    ⟨own_set (own_fr (h.parts p hp).1.1 hf fun k hk e => own_ne h.own (h.parts p hp).1.1 (by decide) hk (by rw [e]; rfl)) hb3 (by decide), (h.parts p hp).1.2⟩
  refine ⟨hb3, ⟨?_, ?_, fun p hp => ⟨hpart p (List.mem_of_mem_eraseIdx hp), (h.parts p (List.mem_of_mem_eraseIdx hp)).2⟩, h.og, ?_, ?_, ?_⟩, hfo, hpart⟩
  · refine Bk.cast (hb3.put 0 (.slice (some ⟨q, 0, none⟩) (ps.length - 1) c)) ?_
    simp only [List.setIfInBounds_toArray, List.set_cons_zero, hlen]
  · rw [hlen, ← pcsc_erase]
    exact own_set ho hb3 (by decide)
  · intro b hbk
    have : q = b := by simpa [Value.ownBlock] using hbk
    rw [← this]
    exact hq
  · intro k hk
    have := h.ol k hk
    have := hfo.size
    omega
  · rw [hlen]
    have := h.few
    omega

/-- seven cells told anew. -/
def put7 (w : World) (b : Nat) (p : Pc) : World := ((((((w.setCell ⟨b, 0, none⟩ (.int .i64 p.src)).setCell ⟨b, 1, none⟩ (.int .i64 p.dst)).setCell ⟨b, 2, none⟩ (.int .u64 p.ep)).setCell ⟨b, 3, none⟩ (.int .u64 p.pe)).setCell ⟨b, 4, none⟩ (.int .u64 p.sq)).setCell ⟨b, 5, none⟩ (.int .u64 p.ak)).setCell ⟨b, 6, none⟩ (.slice p.d.1 p.d.2.2.length p.d.2.1)
theorem put7_bk {w : World} {b : Nat} {T : TypeId} (p : Pc) (h : Bk w b T pcz) : Bk (put7 w b p) b T (pca p) := by
  refine Bk.cast (((((((h.put 0 _).put 1 _).put 2 _).put 3 _).put 4 _).put 5 _).put 6 _) ?_
  unfold pcz pca
  simp only [List.setIfInBounds_toArray, List.set_cons_zero, List.set_cons_succ]
theorem put7_fr (w : World) (b : Nat) (p : Pc) : Fr (fun k => k = b) w (put7 w b p) :=
  ((((((((Fr.refl (fun k => k = b) w).setCell (fun _ => rfl) _).setCell (fun _ => rfl) _).setCell (fun _ => rfl) _).setCell (fun _ => rfl) _).setCell (fun _ => rfl) _).setCell (fun _ => rfl) _).setCell (fun _ => rfl) _)

def TakePost (O : Nat → Prop) (W : World) (g : Nat) (ps : List Pc) (k : Int) (e : Ending) (W' : World) : Prop :=
  if hasB ps.length k = true then ∃ p A c, ps[k.toNat]? = some p ∧ e = .returned (.tuple #[.agg #[.int .i64 p.src, .int .i64 p.dst, .int .u64 p.ep, .int .u64 p.pe, .int .u64 p.sq, .int .u64 p.ak, .slice p.d.1 p.d.2.2.length p.d.2.1], .bool true]) ∧ Fr O W W' ∧ NtIn O W' g A c (ps.eraseIdx k.toNat) ∧ PartO O W' p.d
  else e = .returned (.tuple #[.agg #[.int .i64 0, .int .i64 0, .int .u64 0, .int .u64 0, .int .u64 0, .int .u64 0, .slice none 0 0], .bool false]) ∧ Fr NoBlk W W'

set_option maxRecDepth 100000 in
set_option maxHeartbeats 4000000 in
theorem take_any (W : World) (O : Nat → Prop) (g : Nat) (a : Option Addr) (c : Nat) (ps : List Pc) (h : NtIn O W g a c ps) (k : Int) :
    Calls Try.prog 8 #[.pointer (some ⟨g, 0, none⟩), .int .i64 k] W (TakePost O W g ps k) := by
  have HL := Lib.hid h
  have HP : Hid (∀ e W', TakePost O W g ps k e W' = if hasB ps.length k = true then ∃ p A c, ps[k.toNat]? = some p ∧ e = .returned (.tuple #[.agg #[.int .i64 p.src, .int .i64 p.dst, .int .u64 p.ep, .int .u64 p.pe, .int .u64 p.sq, .int .u64 p.ak, .slice p.d.1 p.d.2.2.length p.d.2.1], .bool true]) ∧ Fr O W W' ∧ NtIn O W' g A c (ps.eraseIdx k.toNat) ∧ PartO O W' p.d
    else e = .returned (.tuple #[.agg #[.int .i64 0, .int .i64 0, .int .u64 0, .int .u64 0, .int .u64 0, .int .u64 0, .slice none 0 0], .bool false]) ∧ Fr NoBlk W W') := fun _ _ => rfl
  obtain ⟨w1, hw1⟩ : ∃ w1, w1 = W.alloc (.cells #[.int .i64 0, .int .i64 0, .int .u64 0, .int .u64 0, .int .u64 0, .int .u64 0, .slice none 0 0] 35) := ⟨_, rfl⟩
  have HF1 : Hid (Fr NoBlk W w1) := by show Fr _ _ _; rw [hw1]; exact (Fr.refl _ _).alloc _
  have HB1 : Hid (Bk w1 W.heap.size 35 pcz) := by show Bk _ _ _ _; rw [hw1]; exact Bk.new _ _ _
  have HN1 := Lib.hid (h.nofr HF1.out)
  have HHS := Lib.hid (has_any w1 O g a c ps HN1.out k)
  clear h
  unfold pcz at HB1
  by_cases hb : hasB ps.length k = true
  · obtain ⟨j, rfl, hj⟩ := hasB_true hb
    rw [hb] at HHS
    obtain ⟨p, hp⟩ : ∃ p, ps[j]? = some p := ⟨_, List.getElem?_eq_getElem hj⟩
    obtain ⟨q, rfl, hq, hqg, hbk⟩ := HN1.out.some_ (by omega)
    have HPJ : Hid (hasB ps.length (j : Int) = true ∧ ps[j]? = some p) := ⟨hb, hp⟩
    obtain ⟨r0, r1, r2, r3, r4, r5, r6⟩ := HN1.out.at_ hp
    have hcN : w1.cell? ⟨g, 0, none⟩ = some (.slice (some ⟨q, 0, none⟩) ps.length c) := hbk.cell 0
    have hji : (j : Int) < (ps.length : Int) := by omega
    clear hb hp hbk
    go_enter Try.func8, Try.ntmps8
    go_wp2_with fail
    rw [← hw1]
    clear hw1
    refine HHS.out.mono ?_
    rintro e w' ⟨rfl, rfl⟩
    clear HHS
    have HF2 : Hid (Fr NoBlk w1 (w1.alloc (.cells #[.int .i64 p.src, .int .i64 p.dst, .int .u64 p.ep, .int .u64 p.pe, .int .u64 p.sq, .int .u64 p.ak, .slice p.d.1 p.d.2.2.length p.d.2.1] 35))) := (Fr.refl _ _).alloc _
    have hcN2 : (w1.alloc (.cells #[.int .i64 p.src, .int .i64 p.dst, .int .u64 p.ep, .int .u64 p.pe, .int .u64 p.sq, .int .u64 p.ak, .slice p.d.1 p.d.2.2.length p.d.2.1] 35)).cell? ⟨g, 0, none⟩ = some (.slice (some ⟨q, 0, none⟩) ps.length c) := (HN1.out.nofr HF2.out).bk.cell 0
    have hw64 : IntKind.i64.wrap ((j : Int) + 1) = (j : Int) + 1 := by rw [IntWalk.i64_in _ (by have := HN1.out.few; omega)]
    have HB2 : Hid (Bk (w1.alloc (.cells #[.int .i64 p.src, .int .i64 p.dst, .int .u64 p.ep, .int .u64 p.pe, .int .u64 p.sq, .int .u64 p.ak, .slice p.d.1 p.d.2.2.length p.d.2.1] 35)) w1.heap.size 35 (pca p)) := Bk.new _ _ _
    go_wp2_with fail
    obtain ⟨w2, hw2⟩ : ∃ w2, w2 = w1.alloc (.cells #[.int .i64 p.src, .int .i64 p.dst, .int .u64 p.ep, .int .u64 p.pe, .int .u64 p.sq, .int .u64 p.ak, .slice p.d.1 p.d.2.2.length p.d.2.1] 35) := ⟨_, rfl⟩
    rw [← hw2] at HF2 HB2 hcN2 ⊢
    have HN2 := Lib.hid (HN1.out.nofr HF2.out)
    refine (delP_any w2 q ps.length c j (pcsc ps) HN2.out.own (pcsc_one ps) (by omega) HN2.out.few).mono ?_
    rintro e w3 ⟨rfl, ho3, hf3⟩
    have HS := Lib.hid (HN2.out.taken hj ho3 hf3)
    have hql : q < W.heap.size := HL.out.ol q hq
    have hgl : g < W.heap.size := HL.out.ol g HL.out.og
    have hsz1 := HF1.out.size
    have h1l : W.heap.size < w1.heap.size := HB1.out.lt
    have hbx3 := HB2.out.fr hf3 (by omega)
    have hbr3 := (HB1.out.fr HF2.out (fun h => h)).fr hf3 (by omega)
    have hcN3 := HS.out.1.cell 0
    have hfN3 := HS.out.1.free 0
    simp only [List.getElem?_toArray, List.getElem?_cons_zero] at hcN3
    obtain ⟨w4, hw4⟩ : ∃ w4, w4 = w3.setCell ⟨g, 0, none⟩ (.slice (some ⟨q, 0, none⟩) (ps.length - 1) c) := ⟨_, rfl⟩
    have hbx4 : Bk w4 w1.heap.size 35 (pca p) := by rw [hw4]; exact hbx3.far (by show _ ≠ g; omega) _
    have hbr4 : Bk w4 W.heap.size 35 pcz := by rw [hw4]; exact hbr3.far (by show _ ≠ g; omega) _
    have b0 := hbx4.cell 0
    have b1 := hbx4.cell 1
    have b2 := hbx4.cell 2
    have b3 := hbx4.cell 3
    have b4 := hbx4.cell 4
    have b5 := hbx4.cell 5
    have b6 := hbx4.cell 6
    have z0 := hbr4.cell 0
    have z1 := hbr4.cell 1
    have z2 := hbr4.cell 2
    have z3 := hbr4.cell 3
    have z4 := hbr4.cell 4
    have z5 := hbr4.cell 5
    have z6 := hbr4.cell 6
    have y0 := hbr4.free 0
    have y1 := hbr4.free 1
    have y2 := hbr4.free 2
    have y3 := hbr4.free 3
    have y4 := hbr4.free 4
    have y5 := hbr4.free 5
    have y6 := hbr4.free 6
    have HBR := Lib.hid hbr4
    unfold pca at b0 b1 b2 b3 b4 b5 b6
    unfold pcz at z0 z1 z2 z3 z4 z5 z6
    simp only [List.getElem?_toArray, List.getElem?_cons_zero, List.getElem?_cons_succ] at b0 b1 b2 b3 b4 b5 b6 z0 z1 z2 z3 z4 z5 z6
    clear ho3 hf3 hbx3 hbr3 hbx4 hbr4 hcN hcN2 r0 r1 r2 r3 r4 r5 r6 HB2 hw2
    go_upto_region 5 with fail
    rw [← hw4] at HS ⊢
    clear hw4 hcN3 hfN3
    go_wp2_with fail
    obtain ⟨w5, hw5⟩ : ∃ w5, w5 = put7 w4 W.heap.size p := ⟨_, rfl⟩
    have hb5 : Bk w5 W.heap.size 35 (pca p) := by rw [hw5]; exact put7_bk p HBR.out
    have hf5 : Fr (fun k => k = W.heap.size) w4 w5 := by rw [hw5]; exact put7_fr w4 _ p
    unfold put7 at hw5
    rw [← hw5]
    clear hw5 b0 b1 b2 b3 b4 b5 b6 z0 z1 z2 z3 z4 z5 z6
    have b0 := hb5.cell 0
    have b1 := hb5.cell 1
    have b2 := hb5.cell 2
    have b3 := hb5.cell 3
    have b4 := hb5.cell 4
    have b5 := hb5.cell 5
    have b6 := hb5.cell 6
    unfold pca at b0 b1 b2 b3 b4 b5 b6
    simp only [List.getElem?_toArray, List.getElem?_cons_zero, List.getElem?_cons_succ] at b0 b1 b2 b3 b4 b5 b6
    have hno : ∀ k, O k → ¬ k = W.heap.size := fun k hk e => by have := HL.out.ol k hk; omega
    have HZ : Hid (TakePost O W g ps (j : Int) (.returned (.tuple #[.agg #[.int .i64 p.src, .int .i64 p.dst, .int .u64 p.ep, .int .u64 p.pe, .int .u64 p.sq, .int .u64 p.ak, .slice p.d.1 p.d.2.2.length p.d.2.1], .bool true])) w5) := by
      show TakePost _ _ _ _ _ _ _
      rw [HP.out, if_pos HPJ.out.1]
      exact ⟨p, _, _, HPJ.out.2, rfl, (((HF1.out.trans HF2.out).mono fun _ _ h => h.elim).trans ((HS.out.2.2.1.mono fun _ _ h => h))).step hf5 (fun k hk e => by omega), HS.out.2.1.fr hf5 hno, (HS.out.2.2.2 p (List.mem_of_getElem? HPJ.out.2)).fr hf5 hno⟩
    clear HS HP
    refine bodyPost_ret (v := .tuple #[.agg #[.int .i64 p.src, .int .i64 p.dst, .int .u64 p.ep, .int .u64 p.pe, .int .u64 p.sq, .int .u64 p.ak, .slice p.d.1 p.d.2.2.length p.d.2.1], .bool true]) (by rw [results_cell_tmp rfl]; go_simp) rfl HZ.out
  · have hb' : hasB ps.length k = false := by simpa using hb
    have HPJ : Hid (¬ hasB ps.length k = true) := hb
    rw [hb'] at HHS
    clear hb hb'
    obtain ⟨c0, c1, c2, c3, c4, c5, c6⟩ : w1.cell? ⟨W.heap.size, 0, none⟩ = some (.int .i64 0) ∧ w1.cell? ⟨W.heap.size, 1, none⟩ = some (.int .i64 0) ∧ w1.cell? ⟨W.heap.size, 2, none⟩ = some (.int .u64 0) ∧ w1.cell? ⟨W.heap.size, 3, none⟩ = some (.int .u64 0) ∧ w1.cell? ⟨W.heap.size, 4, none⟩ = some (.int .u64 0) ∧ w1.cell? ⟨W.heap.size, 5, none⟩ = some (.int .u64 0) ∧ w1.cell? ⟨W.heap.size, 6, none⟩ = some (.slice none 0 0) := ⟨HB1.out.cell 0, HB1.out.cell 1, HB1.out.cell 2, HB1.out.cell 3, HB1.out.cell 4, HB1.out.cell 5, HB1.out.cell 6⟩
    have y0 := HB1.out.free 0
    have y1 := HB1.out.free 1
    have y2 := HB1.out.free 2
    have y3 := HB1.out.free 3
    have y4 := HB1.out.free 4
    have y5 := HB1.out.free 5
    have y6 := HB1.out.free 6
    go_enter Try.func8, Try.ntmps8
    go_wp2_with fail
    rw [← hw1]
    clear hw1
    refine HHS.out.mono ?_
    rintro e w' ⟨rfl, rfl⟩
    clear HHS
    go_wp2_with fail
    obtain ⟨w5, hw5⟩ : ∃ w5, w5 = put7 w1 W.heap.size ⟨0, 0, 0, 0, 0, 0, none, 0, []⟩ := ⟨_, rfl⟩
    have hb5 : Bk w5 W.heap.size 35 (pca ⟨0, 0, 0, 0, 0, 0, none, 0, []⟩) := by rw [hw5]; exact put7_bk _ HB1.out
    have hf5 : Fr (fun k => k = W.heap.size) w1 w5 := by rw [hw5]; exact put7_fr w1 _ _
    unfold put7 at hw5
    simp only [List.length_nil] at hw5
    rw [← hw5]
    clear hw5 c0 c1 c2 c3 c4 c5 c6
    have b0 := hb5.cell 0
    have b1 := hb5.cell 1
    have b2 := hb5.cell 2
    have b3 := hb5.cell 3
    have b4 := hb5.cell 4
    have b5 := hb5.cell 5
    have b6 := hb5.cell 6
    unfold pca at b0 b1 b2 b3 b4 b5 b6
    simp only [List.getElem?_toArray, List.getElem?_cons_zero, List.getElem?_cons_succ, List.length_nil] at b0 b1 b2 b3 b4 b5 b6
    have HZ : Hid (TakePost O W g ps k (.returned (.tuple #[.agg #[.int .i64 0, .int .i64 0, .int .u64 0, .int .u64 0, .int .u64 0, .int .u64 0, .slice none 0 0], .bool false])) w5) := by
      show TakePost _ _ _ _ _ _ _
      rw [HP.out, if_neg HPJ.out]
      exact ⟨rfl, HF1.out.step hf5 (fun k hk e => by omega)⟩
    clear HP
    refine bodyPost_ret (v := .tuple #[.agg #[.int .i64 0, .int .i64 0, .int .u64 0, .int .u64 0, .int .u64 0, .int .u64 0, .slice none 0 0], .bool false]) (by rw [results_cell_tmp rfl]; go_simp) rfl HZ.out
end Go.Proofs.Ytdfmoijomnjdiaa
