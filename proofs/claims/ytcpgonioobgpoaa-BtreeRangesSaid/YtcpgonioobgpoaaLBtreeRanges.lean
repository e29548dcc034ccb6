/- BtreeRanges is true: a loop over a tree from a key on tells its keys and values, rising, and ends where the loop does. No condition. -/
import Derived.Test.YtcpgonioobgpoaaTwo
import Derived.Test.YtcpgonioobgpoaaF3S
import Derived.Test.YtcpgonioobgpoaaGreat2
import Derived.Test.YtcpgonioobgpoaaRoundQ
import Derived.LoopNIn
import Derived.LoopIn
namespace Go.Proofs.Ytcpgonioobgpoaa.btreeRanges
open Go.ChangeShapes Go.WideShapes Go.ChangeAt Go.RowKit Go.Maps Go.Shelf
attribute [local go_sem] Oper.semAt_some
/-- a range over a function, the round's act said by what becomes of the act's slots. -/
theorem rangeF {F : Fence} {n : Nat} {P : Program} {α : Type} {g : Operand} {ps : Array Tmp} {assign body : Code} {Q : Exit → Act → World → Prop} {a : Act} {w : World} (upd : Array Value → α → Array Value)
    (hro : F.round = none) (h1 : 1 ≤ n) {gf : Nat} {lb : Array Value} (hg : a.eval g = .func (.func gf) #[] lb) (hFg : F.fn gf) (eg : ∀ args w, (callFunc gf args).run P w = .ok (.enter gf args) w)
    {encs : α → Array Value} {Kp : World → World → Prop} {S Sp : List α → Prop} {N : Nat} {w0 : World} (hseq : SeqStopsK F (n - 1) P gf lb encs Kp S Sp N w0)
    (hKt : ∀ {A B C : World}, Kp A B → Kp B C → Kp A C) (hKb : ∀ (W : World) (l : Nat) (o o' : Obj), w.heap.size ≤ l → W.heap[l]? = some o → o.isCells = false → o.isWalk = false → Kp W (W.putObj l o')) (hb0 : Below w0.heap.size w0 w) (hps : ∀ x, (encs x).size = ps.size)
    (I : List α → World → Prop) (Ix : Code → List α → World → Prop) (hI : OwnFrom w.heap.size I) (hIx : ∀ c, OwnFrom w.heap.size (Ix c)) (h0 : I [] w)
    (hassign : ∀ (l : Nat) (x : α) (W : World) (K : Act → World → Prop), K { tmps := upd a.tmps x, defers := [] } W →
      assign.wpIn (F.inRound l) (n - 1 - 1) P (Exit.then K (fun _ _ _ => False)) { tmps := (ps.zip (encs x)).foldl (fun t (p, v) => t.setIfInBounds p v) a.tmps, defers := [] } W)
    (hbody : ∀ (l : Nat) (pre : List α) (x : α) (W : World), I pre W → pre.length < N → body.wpIn (F.inRound l) (n - 1 - 1) P (ownPostK Kp I Ix (pre ++ [x]) W) { tmps := upd a.tmps x, defers := [] } W)
    (hdone : ∀ (D : Nat) (xs : List α) (W : World), w.heap.size ≤ D → S xs → I xs W → W.heap[D]? = some (.deferred (some [])) → Q .normal { a with defers := { target := .collected D, args := #[] } :: a.defers } W)
    (hstop : ∀ (D : Nat) (c : Code) (pre : List α) (W : World), w.heap.size ≤ D → Sp pre → Ix c pre W → W.heap[D]? = some (.deferred (some [])) → c.wpIn F n P Q { a with defers := { target := .collected D, args := #[] } :: a.defers } W) :
    (Code.rangeFunc g ps assign body).wpIn F n P Q a w :=
  wpIn_rangeFunc_ownF hro h1 hg hFg eg hseq hKt hKb hb0 hps I Ix hI hIx h0 (fun x => { tmps := upd a.tmps x, defers := [] }) hassign hbody hdone hstop
def onlyN (Q : Act → World → Prop) : Exit → Act → World → Prop
  | .normal, a, w => Q a w
  | _, _, _ => False
theorem wp_onlyN {P : Program} {c : Code} {Q : Exit → Act → World → Prop} {a : Act} {w : World} (h : c.wp P (onlyN (Q .normal)) a w) : c.wp P Q a w :=
  wp_mono h fun e _ _ h => by cases e <;> first | exact h | exact h.elim
theorem Bk.drew {w : World} {g : Nat} {t : TypeId} {cs : Array Value} (h : Bk w g t cs) : Bk w.drew g t cs := h
theorem load_bool {w : World} {a : Addr} {v : Value} (hc : w.cell? a = some v) : (loadVar 4 a).run Try.prog w = .ok v w := by
  simp [loadVar, isAgg, run_underlying Try.underlying4, hc, Result.andThen]
theorem res_cell {fn : Func} {p : Tmp} {ty : TypeId} (h : fn.results = #[.cell p ty]) {tmps : Array Value} {P : Program} {w : World} {a : Addr} {v : Value} (hp : tmps.getD p undef = .pointer (some a)) (hl : (loadVar ty a).run P w = .ok v w) :
    (results fn tmps).run P w = .ok v w := by
  have hp' : tmps[p]?.getD undef = .pointer (some a) := by simpa using hp
  simp [results, h, hp', asAddr, hl]

/-- what stands in memory behind the script's beginning: most in the box h, the result in the box h + 1, the tree g of xs, the document's gm behind the box gp, the place at in the box ga. -/
structure RAt (w : World) (B h g gm gp ga : Nat) (O : Nat → Prop) (A : Option Addr) (c : Nat) (xs : List ItS) (most : Int) (at_ : Nat) (W : World) : Prop where
  t : TreeS W g O xs
  r : RT W B gm A c xs
  pt : Bk W gp 27 #[.pointer (some ⟨gm, 0, none⟩)]
  mo : Bk W h 3 #[.int .i64 most]
  re : Bk W (h + 1) 4 #[.bool false]
  a : Bk W ga 3 #[.int .i64 at_]
  fr : Fr NoBlk w W
  sz : w.heap.size = h
section
variable {w : World} {B h g gm gp ga : Nat} {O : Nat → Prop} {A : Option Addr} {c : Nat} {xs : List ItS} {most : Int} {at_ : Nat} {W W' : World}
theorem RAt.fr1 {C : Nat → Prop} (k : RAt w B h g gm gp ga O A c xs most at_ W) (hf : Fr C W W') (hO : ∀ b, O b → ¬ C b) (hR : ∀ b, rtO gm A b → ¬ C b) (hp : ¬ C gp) (h0 : ¬ C h) (h1 : ¬ C (h + 1)) (ha : ¬ C ga) (hw : Fr NoBlk w W') : RAt w B h g gm gp ga O A c xs most at_ W' :=
  ⟨k.t.fr hf hO, k.r.fr hf hR, k.pt.fr hf hp, k.mo.fr hf h0, k.re.fr hf h1, k.a.fr hf ha, hw, k.sz⟩
theorem RAt.nofr (k : RAt w B h g gm gp ga O A c xs most at_ W) (hf : Fr NoBlk W W') : RAt w B h g gm gp ga O A c xs most at_ W' :=
  k.fr1 hf (fun _ _ e => e) (fun _ _ e => e) (fun e => e) (fun e => e) (fun e => e) (fun e => e) (k.fr.trans hf)
theorem RAt.lt (k : RAt w B h g gm gp ga O A c xs most at_ W) {b : Nat} (hb : O b ∨ rtO gm A b ∨ b = gp ∨ b = h ∨ b = h + 1 ∨ b = ga) : b < W.heap.size := by
  rcases hb with hb | hb | rfl | rfl | rfl | rfl
  · exact k.t.lt hb
  · exact (k.r.lt hb).2
  · exact k.pt.lt
  · exact k.mo.lt
  · exact k.re.lt
  · exact k.a.lt
/-- a new block, or one that holds no cells, turns. -/
theorem RAt.others {row : Option Nat} (k : RAt w B h g gm gp ga O A c xs most at_ W) (hOw : ∀ b, O b → b < ga) (hRw : ∀ b, rtO gm A b → b < ga) (hlo : gp < ga ∧ h + 1 < ga) (hg : W.grownBy W' row) (hr : ∀ r, row = some r → ga < r) : RAt w B h g gm gp ga O A c xs most at_ W' := by
  have hf := Fr.ofGrown hg
  refine k.fr1 hf (fun b hb e => ?_) (fun b hb e => ?_) (fun e => ?_) (fun e => ?_) (fun e => ?_) (fun e => ?_) (k.fr.grown hg fun r e hl => ?_)
  · have := hr b e.symm; have := hOw b hb; omega
  · have := hr b e.symm; have := hRw b hb; omega
  · have := hr _ e.symm; omega
  · have := hr _ e.symm; omega
  · have := hr _ e.symm; omega
  · have := hr _ e.symm; omega
  · have := hr r e; have := k.sz; omega
end
theorem made2 {W wr : World} {K : Nat → Prop} {g gm : Nat} {xs ys : List ItS} (h : TwoK W K g gm xs ys wr) (o : Obj) : TwoK W (fun b => K b ∨ b = wr.heap.size) g gm xs ys (wr.alloc o) := by
  obtain ⟨O, A, c, h⟩ := h
  have hf : Fr NoBlk wr (wr.alloc o) := (Fr.refl _ _).alloc _
  refine ⟨O, A, c, h.t.nofr hf, h.r.nofr hf, h.o, h.dj, h.up, h.fr.trans hf, fun b hb => ?_⟩
  rw [World.size_alloc]
  rcases hb with hb | rfl
  · exact ⟨by have := (h.k b hb).1; omega, (h.k b hb).2⟩
  · exact ⟨by omega, fun e => by have := h.t.lt e; omega, fun e => by have := (h.r.lt e).2; omega⟩
theorem less2 {W wr : World} {K K' : Nat → Prop} {g gm : Nat} {xs ys : List ItS} (h : TwoK W K g gm xs ys wr) (hk : ∀ b, K' b → K b) : TwoK W K' g gm xs ys wr := by
  obtain ⟨O, A, c, h⟩ := h
  exact ⟨O, A, c, h.t, h.r, h.o, h.dj, h.up, h.fr, fun b hb => h.k b (hk b hb)⟩
theorem pre_get {xs pre : List ItS} {x : ItS} {k : Nat} (h : pre ++ [x] <+: xs.drop k) : xs[k + pre.length]? = some x := by
  obtain ⟨s, hs⟩ := h
  have := congrArg (fun l => l[pre.length]?) hs
  rw [List.append_assoc] at this
  simp only [List.getElem?_append_right (Nat.le_refl _), Nat.sub_self, List.getElem?_drop] at this
  exact this.symm

set_option maxRecDepth 100000 in
set_option maxHeartbeats 4000000 in
theorem walk (W0 : World) (A : Option Addr) (c : Nat) (l : List Opn) (key : Bs) (most : Int) (hr : Rd W0 A (opsc l)) (hx : ∀ x ∈ l, OpIn x) (hm : l.length ≤ maxLen) (hkl : key.length ≤ 9223372036854775807) :
    Calls Try.prog 4 #[.slice A l.length c, .string (bstr key), .int .i64 most] W0 fun e w' => e = .returned (.bool true) ∧ Fr NoBlk W0 w' := by
  obtain ⟨h, hh⟩ : ∃ h, h = W0.heap.size := ⟨_, rfl⟩
  have HF0 : Hid (Fr NoBlk W0 ((W0.alloc (.cells #[.int .i64 most] 3)).alloc (.cells #[.bool false] 4))) := ((Fr.refl _ _).alloc _).alloc _
  have HM0 : Hid (Bk ((W0.alloc (.cells #[.int .i64 most] 3)).alloc (.cells #[.bool false] 4)) h 3 #[.int .i64 most]) := by
    show Bk _ _ _ _
    rw [hh]
    exact (Bk.new _ _ _).alloc _
  have hsz : (W0.alloc (.cells #[.int .i64 most] 3)).heap.size = h + 1 := by rw [World.size_alloc, hh]
  have HR0 : Hid (Bk ((W0.alloc (.cells #[.int .i64 most] 3)).alloc (.cells #[.bool false] 4)) (h + 1) 4 #[.bool false]) := by
    show Bk _ _ _ _
    rw [← hsz]
    exact Bk.new _ _ _
  have HZ0 : Hid (((W0.alloc (.cells #[.int .i64 most] 3)).alloc (.cells #[.bool false] 4)).heap.size = h + 2) := by
    show _ = _
    rw [World.size_alloc, hsz]
  have HR := Lib.hid hr
  have HX := Lib.hid hx
  have HM := Lib.hid hm
  have HH := Lib.hid hh
  obtain ⟨n, hn⟩ : ∃ n, n = l.length := ⟨_, rfl⟩
  have HN := Lib.hid hn
  clear hr hx hm hsz
  refine (callsIn_wide (n := 9)).1 ?_
  refine callsIn_of_wp_marks Try.func4 rfl trivial ?_ rfl
  simp only [Try.ntmps4, List.size_toArray, List.length_cons, List.length_nil, Nat.reduceAdd, Nat.reduceSub, Array.replicate_succ, Array.replicate_zero, List.push_toArray, List.append_toArray, List.nil_append, List.cons_append]
  refine wpIn_wide.2 ?_
  obtain ⟨w0, hw0⟩ : ∃ w0, w0 = (W0.alloc (.cells #[.int .i64 most] 3)).alloc (.cells #[.bool false] 4) := ⟨_, rfl⟩
  rw [← hw0] at HF0 HM0 HR0 HZ0
  go_wp2_with fail
  rw [← hw0, ← hh]
  clear hw0 hh
  refine (speaks_any _).mono ?_
  rintro e w1 ⟨rfl, hf1⟩
  have HF1 := Lib.hid (HF0.out.trans hf1)
  have HM1 := Lib.hid (HM0.out.fr hf1 fun h => h)
  have HR1 := Lib.hid (HR0.out.fr hf1 fun h => h)
  have HZ1 : Hid (h + 2 ≤ w1.heap.size) := by show _ ≤ _; rw [← HZ0.out]; exact hf1.size
  clear hf1 HF0 HM0 HR0 HZ0
  have TRUE : Hid (w1.cell? ⟨h + 1, 0, none⟩ = some (.bool false) ∧ w1.frozen? ⟨h + 1, 0, none⟩ = false ∧ (w1.setCell ⟨h + 1, 0, none⟩ (.bool true)).cell? ⟨h + 1, 0, none⟩ = some (.bool true) ∧ Fr NoBlk W0 (w1.setCell ⟨h + 1, 0, none⟩ (.bool true))) :=
    ⟨HR1.out.cell 0, HR1.out.free 0, (HR1.out.put 0 (.bool true)).cell 0, HF1.out.step ((Fr.refl (fun j => j = h + 1) w1).setCell (p := ⟨h + 1, 0, none⟩) (fun _ => rfl) _) (fun i hi e => by have := HH.out; omega)⟩
  go_wp2_with fail
  refine (great_any w1 A c l (HR.out.nofr HF1.out) HX.out HM.out).mono ?_
  rintro e w1' ⟨⟨b, rfl, hb⟩, rfl⟩
  cases b with
  | true =>
    obtain ⟨hrc, hrf, hrd, hfs⟩ := TRUE.out
    have HFS := Lib.hid hfs
    have HRD := Lib.hid hrd
    clear hfs hrd TRUE
    go_wp2_with fail
    refine ⟨_, res_cell rfl rfl (load_bool HRD.out), rfl, HFS.out⟩
  | false =>
    have HN2 : Hid (n ≤ 2000) := by show n ≤ 2000; rw [hn]; exact hb rfl
    have ek := bstr_size key
    by_cases hk1000 : 1000 < key.length
    · obtain ⟨hrc, hrf, hrd, hfs⟩ := TRUE.out
      have HFS := Lib.hid hfs
      have HRD := Lib.hid hrd
      have hk2 : (1000 : Int) < (key.length : Int) := by omega
      clear hfs hrd TRUE
      go_wp2_with fail
      refine ⟨_, res_cell rfl rfl (load_bool HRD.out), rfl, HFS.out⟩
    have hk2 : ¬ (1000 : Int) < (key.length : Int) := by omega
    rw [← hn]
    clear hb hn TRUE
    go_wp2_with fail
    refine (newS_any w1).mono ?_
    rintro e w2 ⟨g, O, rfl, ht, hO, hf2⟩
    have HZ2 : Hid (h + 2 ≤ w2.heap.size) := by show _ ≤ _; have := HZ1.out; have := hf2.size; omega
    obtain ⟨gm, hgm⟩ : ∃ gm, gm = w2.heap.size := ⟨_, rfl⟩
    obtain ⟨w3, hw3⟩ : ∃ w3, w3 = (w2.alloc (.cells #[.slice none 0 0] 30)).alloc (.cells #[.pointer (some ⟨w2.heap.size, 0, none⟩)] 27) := ⟨_, rfl⟩
    have hf23 : Fr NoBlk w2 w3 := by rw [hw3]; exact ((Fr.refl _ _).alloc _).alloc _
    have HB3 : Hid (Bk w3 (gm + 1) 27 #[.pointer (some ⟨gm, 0, none⟩)]) := by
      show Bk _ _ _ _
      have hb := Bk.new (w2.alloc (.cells #[.slice none 0 0] 30)) 27 #[.pointer (some ⟨w2.heap.size, 0, none⟩)]
      rw [World.size_alloc, ← hw3, ← hgm] at hb
      exact hb
    have H3 : Hid (TwoK w1 (fun b => b = gm + 1) g gm [] [] w3) := by
      show TwoK _ _ _ _ _ _ _
      rw [hw3, hgm]
      have := (TwoK.new (W := w1) (Fr.refl _ _) ht hO hf2).made (.cells #[.pointer (some ⟨w2.heap.size, 0, none⟩)] 27)
      rw [World.size_alloc] at this
      exact this
    have HFW : Hid (Fr NoBlk W0 w1) := HF1.out
    clear ht hO hf2 hf23 HF1
    go_wp2_with fail
    rw [← hw3, ← hgm]
    clear hw3 hgm HZ2
    go_loopw [32] (fun i wr => ∃ (k : Nat) (xs : List ItS), i = .int .i64 (k : Int) ∧ k ≤ n ∧ Hid (xs.length ≤ k ∧ TwoK w1 (fun b => b = gm + 1) g gm xs xs wr ∧ Bk wr (gm + 1) 27 #[.pointer (some ⟨gm, 0, none⟩)])) (fun i _ => (n - intOf i).toNat)
    case atStart => exact ⟨0, [], rfl, Nat.zero_le _, Nat.le_refl _, H3.out, HB3.out⟩
    case round =>
      clear H3 HB3
      obtain ⟨k, xs, rfl, hk, HI⟩ := hrel
      have HL : Hid (xs.length ≤ 99990) := by show _ ≤ _; have := HI.out.1; have := HN2.out; omega
      by_cases hkn : k < n
      · have hki : (k : Int) < (n : Int) := by omega
        obtain ⟨x, hx⟩ : ∃ x, l[k]? = some x := ⟨_, List.getElem?_eq_getElem (by rw [← HN.out]; exact hkn)⟩
        obtain ⟨kind, ky, v⟩ := x
        obtain ⟨b, o, hA, d0, d1, d2⟩ := (HR.out.nofr (HFW.out.trans HI.out.2.1.fr)).opn hx
        subst hA
        dsimp only at d0 d1 d2
        have HL1 : Hid (xs.length ≤ k) := HI.out.1
        have hwr : IntKind.i64.wrap ((k : Int) + 1) = (k : Int) + 1 := by have := HN2.out; exact IntWalk.i64_in _ (by omega)
        obtain ⟨ob, hob⟩ : ∃ ob, ob = wr.heap.size := ⟨_, rfl⟩
        obtain ⟨w4, hw4⟩ : ∃ w4, w4 = wr.alloc (.cells #[.int .i64 kind, .string (bstr ky), .int .i64 v] 32) := ⟨_, rfl⟩
        have hf4 : Fr NoBlk wr w4 := by rw [hw4]; exact (Fr.refl _ _).alloc _
        have HB4 : Hid (Bk w4 ob 32 #[.int .i64 kind, .string (bstr ky), .int .i64 v]) := by show Bk _ _ _ _; rw [hw4, hob]; exact Bk.new _ _ _
        have H4 : Hid (TwoK w1 (fun b => b = gm + 1 ∨ b = ob) g gm xs xs w4) := by show TwoK _ _ _ _ _ _ _; rw [hw4, hob]; exact made2 HI.out.2.1 _
        have HP4 : Hid (Bk w4 (gm + 1) 27 #[.pointer (some ⟨gm, 0, none⟩)]) := HI.out.2.2.fr hf4 fun e => e
        have HW4 := Lib.hid hw4
        have HOB := Lib.hid hob
        have HUP := Lib.hid HI.out.2.1.up
        have HC := Lib.hid (two_put H4.out (by have := HL.out; omega) ky v)
        clear hx hw4 hob HI hf4
        go_wp2_with fail
        rw [← HW4.out, ← HOB.out]
        clear HW4 HOB d0 d1 d2
        refine HC.out.mono ?_
        clear HC
        rintro e w5 ⟨v5, b5, rfl, hl5, h5, hk5⟩
        have HB5 := Lib.hid (HB4.out.kept hk5 (.inr rfl))
        have H5 := Lib.hid h5
        have HP5 := Lib.hid (HP4.out.kept hk5 (.inl rfl))
        have e1 : w5.cell? ⟨ob, 1, none⟩ = some (.string (bstr ky)) := HB5.out.cell 1
        have e2 : w5.cell? ⟨ob, 2, none⟩ = some (.int .i64 v) := HB5.out.cell 2
        have e3 : w5.cell? ⟨gm + 1, 0, none⟩ = some (.pointer (some ⟨gm, 0, none⟩)) := HP5.out.cell 0
        have HC := Lib.hid (two_rput H5.out (by have := HL.out; omega) ky v)
        clear hl5 h5 hk5 HB4 H4 HP4
        go_wp2_with fail
        refine HC.out.mono ?_
        clear HC e1 e2 e3
        rintro e w6 ⟨v6, b6, rfl, hl6, h6, hk6⟩
        have H6 : Hid (TwoK w1 (fun b => b = gm + 1) g gm (putL Op.bytesLess ky v xs) (putL Op.bytesLess ky v xs) w6) := less2 h6 fun b hb => .inl hb
        have HP6 := Lib.hid (HP5.out.kept hk6 (.inl rfl))
        clear hl6 h6 hk6 HB5 H5 HP5
        go_wp2_with fail
        go_roundw
        case rel => exact ⟨k + 1, _, by push_cast; rfl, by omega, Nat.le_trans (putL_le linS HUP.out) (Nat.succ_le_succ HL1.out), H6.out, HP6.out⟩
        case measure => simp [intOf]; omega
      · have hki : ¬ (k : Int) < (n : Int) := by omega
        obtain ⟨O, A1, c1, hT⟩ := HI.out.2.1
        have HT := Lib.hid hT
        have HP := Lib.hid HI.out.2.2
        have HPL := Lib.hid (rplace_any wr w1.heap.size gm A1 c1 xs hT.r hT.up (by have := HL.out; omega) key)
        have e3 : wr.cell? ⟨gm + 1, 0, none⟩ = some (.pointer (some ⟨gm, 0, none⟩)) := HI.out.2.2.cell 0
        clear hT HI hk hkn
        go_wp2_with fail
        refine HPL.out.mono ?_
        clear HPL e3
        rintro e w5 ⟨i, fd, rfl, hi, _, hf5⟩
        have HF5 := Lib.hid hf5
        have HG := Lib.hid (geL_at hi)
        have HIL : Hid (i ≤ xs.length) := hi.le
        obtain ⟨ga, hga⟩ : ∃ ga, ga = w5.heap.size := ⟨_, rfl⟩
        have hs6 : (w5.alloc (.cells #[.int .i64 (i : Int)] 3)).heap.size = ga + 1 := by rw [World.size_alloc, hga]
        have cat : (w5.alloc (.cells #[.int .i64 (i : Int)] 3)).cell? ⟨ga, 0, none⟩ = some (.int .i64 (i : Int)) := by rw [hga]; exact (Bk.new w5 3 #[.int .i64 (i : Int)]).cell 0
        have HGA := Lib.hid hga
        have HS6 := Lib.hid hs6
        clear hi hf5 hga
        go_wp2_with fail
        refine (treeFromS_any _ g key).mono ?_
        rintro e w8 ⟨rfl, hw8⟩
        have hs7 : ((w5.alloc (.cells #[.int .i64 (i : Int)] 3)).alloc (.cells #[.int .i64 (i : Int)] 3)).heap.size = ga + 2 := by rw [World.size_alloc, HS6.out]
        simp only [hs7, ← HGA.out]
        have hs8 : (((w5.alloc (.cells #[.int .i64 (i : Int)] 3)).alloc (.cells #[.int .i64 (i : Int)] 3)).alloc (.cells #[.pointer (some ⟨g, 0, none⟩)] 25)).heap.size = ga + 3 := by rw [World.size_alloc, hs7]
        have hf58 : Fr NoBlk w5 w8 := by rw [hw8]; exact ((((Fr.refl NoBlk w5).alloc _).alloc _).alloc _).alloc _
        have HF8 : Hid (Fr NoBlk wr w8) := HF5.out.trans hf58
        have HB8 : Hid (Bk w8 ga 3 #[.int .i64 (i : Int)] ∧ Bk w8 (ga + 1) 3 #[.int .i64 (i : Int)] ∧ Bk w8 (ga + 2) 25 #[.pointer (some ⟨g, 0, none⟩)] ∧ Bk w8 (ga + 3) 9 #[.string (bstr key)]) := by
          refine ⟨?_, ?_, ?_, ?_⟩
          · rw [hw8, HGA.out]; exact (((Bk.new _ _ _).alloc _).alloc _).alloc _
          · rw [hw8, ← HS6.out]; exact ((Bk.new _ _ _).alloc _).alloc _
          · rw [hw8, ← hs7]; exact (Bk.new _ _ _).alloc _
          · rw [hw8, ← hs8]; exact Bk.new _ _ _
        have HBL : Hid ((∀ b, O b → b < ga) ∧ (∀ b, rtO gm A1 b → b < ga) ∧ gm + 1 < ga ∧ h + 1 < ga) := by
          have hsz : wr.heap.size ≤ ga := by rw [HGA.out]; exact HF5.out.size
          refine ⟨fun b hb => Nat.lt_of_lt_of_le (HT.out.t.lt hb) hsz, fun b hb => Nat.lt_of_lt_of_le (HT.out.r.lt hb).2 hsz, Nat.lt_of_lt_of_le HP.out.lt hsz, ?_⟩
          have := HZ1.out; have := HT.out.fr.size; omega
        have HRA : Hid (RAt W0 w1.heap.size h g gm (gm + 1) ga O A1 c1 xs most i w8) :=
          ⟨HT.out.t.nofr HF8.out, HT.out.r.nofr HF8.out, HP.out.fr HF8.out fun e => e, (HM1.out.fr HT.out.fr fun e => e).fr HF8.out fun e => e, (HR1.out.fr HT.out.fr fun e => e).fr HF8.out fun e => e, HB8.out.1, (HFW.out.trans HT.out.fr).trans HF8.out, HH.out.symm⟩
        have HN0 : Hid (Bk w8 (ga + 1) 3 #[.int .i64 ((i + 0 : Nat) : Int)]) := HB8.out.2.1
        have HST := Lib.hid (fromS_stops 8 (ga + 2) (ga + 3) (fun b => O b ∨ b = ga + 2 ∨ b = ga + 3) w8 g O xs key HRA.out.t (fun _ => Iff.rfl) HB8.out.2.2.1.lt HB8.out.2.2.2.lt (HB8.out.2.2.1.cell 0) (HB8.out.2.2.2.cell 0))
        rw [HG.out] at HST
        have HKK : Hid (∀ k, (O k ∨ k = ga + 2 ∨ k = ga + 3) → k < w8.heap.size) := fun k hk => by
          rcases hk with hk | rfl | rfl
          · exact HRA.out.t.lt hk
          · exact HB8.out.2.2.1.lt
          · exact HB8.out.2.2.2.lt
        have HZ8 : Hid (ga + 1 < w8.heap.size) := HB8.out.2.1.lt
        clear hw8 hs6 hs7 hs8 hf58 cat HS6 HGA HB8 HT HP HF5 HF8
        go_wp2_with fail
        refine (wpIn_wide (n := 9)).1 ?_
        refine rangeF (fun T (x : ItS) => (((T.setIfInBounds 59 (.string (bstr x.1))).setIfInBounds 60 (.int .i64 x.2)).setIfInBounds 14 (.string (bstr x.1))).setIfInBounds 15 (.int .i64 x.2)) rfl (by omega) (gf := 42) (lb := #[.pointer (some ⟨ga + 2, 0, none⟩), .pointer (some ⟨ga + 3, 0, none⟩)]) rfl trivial (enters_of Try.func42 (by kernel_rfl) rfl)
          HST.out (fun h k => h.t k) (Keep.b HKK.out) (Below.refl _ _) (fun _ => rfl)
          (fun (pre : List ItS) W => RAt W0 w1.heap.size h g gm (gm + 1) ga O A1 c1 xs most i W ∧ Bk W (ga + 1) 3 #[.int .i64 ((i + pre.length : Nat) : Int)] ∧ (pre.length : Int) ≤ most.toNat)
          (fun c (pre : List ItS) W => (c = .exit 2 ∧ most ≤ (pre.dropLast.length : Int) ∧ (pre.dropLast.length : Int) ≤ most.toNat ∧ RAt W0 w1.heap.size h g gm (gm + 1) ga O A1 c1 xs most i W ∧ Bk W (ga + 1) 3 #[.int .i64 ((i + pre.dropLast.length : Nat) : Int)]) ∨ ¬ (pre <+: xs.drop i))
          (fun s W W' row hs hg hr => ⟨hs.1.others HBL.out.1 HBL.out.2.1 HBL.out.2.2 hg fun r e => by have := (hr r e).1; have := HZ8.out; omega, hs.2.1.others hg fun r e => (hr r e).2, hs.2.2⟩)
          (fun c s W W' row hs hg hr => hs.imp (fun hs => ⟨hs.1, hs.2.1, hs.2.2.1, hs.2.2.2.1.others HBL.out.1 HBL.out.2.1 HBL.out.2.2 hg fun r e => by have := (hr r e).1; have := HZ8.out; omega, hs.2.2.2.2.others hg fun r e => (hr r e).2⟩) id)
          ⟨HRA.out, HN0.out, Int.natCast_nonneg _⟩ ?assign ?body ?done ?stop
        case assign =>
          intro l' x W K hK
          simp only [List.setIfInBounds_toArray, List.set_cons_zero, List.set_cons_succ] at hK
          simp [encS]
          gi_wp2
          exact hK
        case body =>
          rintro l' pre ⟨xk, xv⟩ W ⟨hl, hb, hle⟩ hlen
          simp only [List.setIfInBounds_toArray, List.set_cons_zero, List.set_cons_succ]
          obtain ⟨q, hq⟩ : ∃ q, q = pre.length := ⟨_, rfl⟩
          rw [← hq] at hb hle hlen
          have hqn : i + q < xs.length := by rw [List.length_drop] at hlen; omega
          have HL6 := Lib.hid hl
          have HB6 := Lib.hid hb
          have HQ := Lib.hid hq
          have HLE := Lib.hid hle
          obtain ⟨m, hm⟩ : ∃ m, m = i + q := ⟨_, rfl⟩
          have HMQ := Lib.hid hm
          rw [← hm] at hqn
          obtain ⟨nx, hnx⟩ : ∃ nx, nx = xs.length := ⟨_, rfl⟩
          have HNX := Lib.hid hnx
          have c1' : W.cell? ⟨ga + 1, 0, none⟩ = some (.int .i64 (m : Int)) := by rw [hm]; exact hb.cell 0
          have c2' : W.cell? ⟨ga, 0, none⟩ = some (.int .i64 (i : Int)) := hl.a.cell 0
          have c3' : W.cell? ⟨h, 0, none⟩ = some (.int .i64 most) := hl.mo.cell 0
          have c4' : W.cell? ⟨gm + 1, 0, none⟩ = some (.pointer (some ⟨gm, 0, none⟩)) := hl.pt.cell 0
          have c5' : W.cell? ⟨h + 1, 0, none⟩ = some (.bool false) := hl.re.cell 0
          have f1 := hb.free 0
          have f2 : W.frozen? ⟨h + 1, 0, none⟩ = false := hl.re.free 0
          have c6' : W.cell? ⟨gm, 0, none⟩ = some (.slice A1 nx c1) := by rw [hnx]; exact hl.r.bk.cell 0
          obtain ⟨y, hy⟩ : ∃ y, xs[m]? = some y := ⟨_, List.getElem?_eq_getElem hqn⟩
          obtain ⟨yk, yv⟩ := y
          obtain ⟨b, o, hA1, d0, d1⟩ := hl.r.row.rd.itS hy
          dsimp only at d0 d1
          rw [hA1] at c6'
          have HPX : Hid (pre ++ [(xk, xv)] <+: xs.drop i → (xk, xv) = (yk, yv)) := fun hp => by
            have h1 := pre_get hp
            rw [← HQ.out, ← HMQ.out, hy] at h1
            injection h1 with h1
            exact h1.symm
          have hqm : m < nx := by rw [hnx]; exact hqn
          have hmi : (m : Int) < (nx : Int) := by omega
          have hm0 : (0 : Int) ≤ (m : Int) := by omega
          have hsub : IntKind.i64.wrap ((m : Int) - (i : Int)) = (q : Int) := by rw [IntWalk.i64_in _ (by have := HL.out; omega)]; omega
          have hge : ¬ (nx : Int) ≤ (m : Int) := by omega
          have hgn : ¬ nx ≤ m := by omega
          have hdn : decide (nx ≤ m) = false := decide_eq_false hgn
          have hwr : IntKind.i64.wrap ((m : Int) + 1) = (m : Int) + 1 := by have := HL.out; exact IntWalk.i64_in _ (by omega)
          have e4 := bstr_toList xk
          have e5 := bstr_toList yk
          clear hl hb hle hq hlen hm hnx hy hA1 hqn
          by_cases hmost : most ≤ (q : Int)
          · have hdm : decide (most ≤ (q : Int)) = true := decide_eq_true hmost
            clear d0 d1 c4' c6'
            gi_wp2
            refine region_round (by kernel_rfl) rfl (by kernel_rfl) (by kernel_rfl) ?_
            repeat (gi_big_quiet_step (fail))
            refine wpQuietIn_nil ?_
            rintro _ ⟨nq, rfl⟩
            gi_wp2
            refine ⟨⟨Nat.le_refl _, fun _ _ h _ => h⟩, .inl ⟨rfl, ?_, ?_, HL6.out.nofr ((Fr.refl _ _).drewN _), ?_⟩⟩
            · rw [List.dropLast_concat, ← HQ.out]; exact hmost
            · rw [List.dropLast_concat, ← HQ.out]; exact HLE.out
            · rw [List.dropLast_concat, ← HQ.out]; exact HB6.out
          · have hdm : decide (most ≤ (q : Int)) = false := decide_eq_false hmost
            have HNP : Hid ((xk, xv) ≠ (yk, yv) → ¬ (pre ++ [(xk, xv)] <+: xs.drop i)) := fun h hp => h (HPX.out hp)
            by_cases hkk : yk = xk
            · subst hkk
              by_cases hvv : yv = xv
              · subst hvv
                gi_wp2
                refine region_round (by kernel_rfl) rfl (by kernel_rfl) (by kernel_rfl) ?_
                repeat (gi_big_quiet_step (fail))
                refine wpQuietIn_nil ?_
                rintro _ ⟨nq, rfl⟩
                gi_wp2
                refine region_round (by kernel_rfl) rfl (by kernel_rfl) (by kernel_rfl) ?_
                repeat (gi_big_quiet_step (fail))
                refine wpQuietIn_nil ?_
                rintro _ ⟨nq2, rfl⟩
                have c1q : (W.drewN (nq + nq2)).cell? ⟨ga + 1, 0, none⟩ = some (.int .i64 (m : Int)) := c1'
                have f1q : (W.drewN (nq + nq2)).frozen? ⟨ga + 1, 0, none⟩ = false := f1
                gi_wp2
                have hfs : Fr (fun b => b = ga + 1) W ((W.drewN (nq + nq2)).setCell ⟨ga + 1, 0, none⟩ (.int .i64 ((m : Int) + 1))) := ((Fr.refl (fun b => b = ga + 1) W).drewN (nq + nq2)).setCell (p := ⟨ga + 1, 0, none⟩) (fun _ => rfl) _
                have hbl := HBL.out
                refine ⟨KeepsOthers.trans (B := W.drewN (nq + nq2)) ⟨Nat.le_refl _, fun _ _ h _ => h⟩ (KeepsOthers.setCell _ _ _), fun b hb => Below.heap_setCell (W.drewN (nq + nq2)) ⟨ga + 1, 0, none⟩ _ b ?_, HL6.out.fr1 (C := fun b => b = ga + 1) hfs (fun b hb e => by have := hbl.1 b hb; omega) (fun b hb e => by have := hbl.2.1 b hb; omega) (by show ¬ gm + 1 = ga + 1; omega) (by show ¬ h = ga + 1; omega) (by show ¬ h + 1 = ga + 1; omega) (by show ¬ ga = ga + 1; omega) (Fr.step (D := fun b => b = ga + 1) HL6.out.fr hfs fun b hb e => by have := HH.out; have : b = ga + 1 := e; omega), ?_, ?_⟩
                · rcases hb with hb | rfl | rfl
                  · have := hbl.1 b hb; show b ≠ ga + 1; omega
                  · show ga + 2 ≠ ga + 1; omega
                  · show ga + 3 ≠ ga + 1; omega
                · rw [List.length_append, List.length_singleton, ← HQ.out]
                  have h := (HB6.out.fr ((Fr.refl NoBlk W).drewN (nq + nq2)) fun e => e).put 0 (.int .i64 ((m : Int) + 1))
                  rw [HMQ.out] at h ⊢
                  push_cast at h ⊢
                  rw [← Int.add_assoc]
                  simpa using h
                · rw [List.length_append, List.length_singleton, ← HQ.out]
                  push_cast
                  omega
              · have hve : (yv == xv) = false := beq_eq_false_iff_ne.2 hvv
                have HX2 := Lib.hid (HNP.out fun e => hvv (by injection e with _ e; exact e.symm))
                gi_wp2
                refine region_round (by kernel_rfl) rfl (by kernel_rfl) (by kernel_rfl) ?_
                repeat (gi_big_quiet_step (fail))
                refine wpQuietIn_nil ?_
                rintro _ ⟨nq, rfl⟩
                gi_wp2
                refine region_round (by kernel_rfl) rfl (by kernel_rfl) (by kernel_rfl) ?_
                repeat (gi_big_quiet_step (fail))
                refine wpQuietIn_nil ?_
                rintro _ ⟨nq2, rfl⟩
                gi_wp2
                exact ⟨KeepsOthers.trans (B := W.drewN (nq + nq2)) ⟨Nat.le_refl _, fun _ _ h _ => h⟩ (KeepsOthers.setCell _ _ _), .inr HX2.out⟩
            · have hke : (yk == xk) = false := beq_eq_false_iff_ne.2 hkk
              have HX2 := Lib.hid (HNP.out fun e => hkk (by injection e with e _; exact e.symm))
              gi_wp2
              refine region_round (by kernel_rfl) rfl (by kernel_rfl) (by kernel_rfl) ?_
              repeat (gi_big_quiet_step (fail))
              refine wpQuietIn_nil ?_
              rintro _ ⟨nq, rfl⟩
              gi_wp2
              refine region_round (by kernel_rfl) rfl (by kernel_rfl) (by kernel_rfl) ?_
              repeat (gi_big_quiet_step (fail))
              refine wpQuietIn_nil ?_
              rintro _ ⟨nq2, rfl⟩
              gi_wp2
              exact ⟨KeepsOthers.trans (B := W.drewN (nq + nq2)) ⟨Nat.le_refl _, fun _ _ h _ => h⟩ (KeepsOthers.setCell _ _ _), .inr HX2.out⟩
        case done =>
          rintro D xs' W hD hS ⟨hl, hb, _⟩ hK
          have HNX0 : ∃ nx, nx = xs.length := ⟨_, rfl⟩
          obtain ⟨nx, hnx⟩ := HNX0
          have HNX := Lib.hid hnx
          obtain ⟨m, hm⟩ : ∃ m, m = i + xs'.length := ⟨_, rfl⟩
          rw [← hm] at hb
          have HB := Lib.hid hb
          have HL9 := Lib.hid hl
          have HD := Lib.hid hD
          have HKD := Lib.hid hK
          have hgb := hl.r.gb
          have hz1 := HZ1.out
          have hlo := HBL.out.2.2
          have hne1 : ga + 1 ≠ h + 1 := by omega
          have hne2 : gm + 1 ≠ h + 1 := by omega
          have hne3 : gm ≠ h + 1 := by omega
          have hne4 : ga ≠ h + 1 := by omega
          have hne5 : h ≠ h + 1 := by omega
          have HBM : Hid (Bk W gm 30 #[.slice A1 nx c1]) := by show Bk _ _ _ _; rw [hnx]; exact hl.r.bk
          have HSD : Hid ((W.drew).cell? ⟨ga + 1, 0, none⟩ = some (.int .i64 (m : Int)) ∧ (W.drew).cell? ⟨gm + 1, 0, none⟩ = some (.pointer (some ⟨gm, 0, none⟩)) ∧ (W.drew).cell? ⟨gm, 0, none⟩ = some (.slice A1 nx c1) ∧ (W.drew).cell? ⟨ga, 0, none⟩ = some (.int .i64 (i : Int)) ∧ (W.drew).cell? ⟨h, 0, none⟩ = some (.int .i64 most)) := ⟨HB.out.cell 0, HL9.out.pt.cell 0, HBM.out.cell 0, HL9.out.a.cell 0, HL9.out.mo.cell 0⟩
          have HSE : Hid (((W.drew).setCell ⟨h + 1, 0, none⟩ (.bool true)).cell? ⟨ga + 1, 0, none⟩ = some (.int .i64 (m : Int)) ∧ ((W.drew).setCell ⟨h + 1, 0, none⟩ (.bool true)).cell? ⟨gm + 1, 0, none⟩ = some (.pointer (some ⟨gm, 0, none⟩)) ∧ ((W.drew).setCell ⟨h + 1, 0, none⟩ (.bool true)).cell? ⟨gm, 0, none⟩ = some (.slice A1 nx c1) ∧ ((W.drew).setCell ⟨h + 1, 0, none⟩ (.bool true)).cell? ⟨ga, 0, none⟩ = some (.int .i64 (i : Int)) ∧ ((W.drew).setCell ⟨h + 1, 0, none⟩ (.bool true)).cell? ⟨h, 0, none⟩ = some (.int .i64 most)) := ⟨((Bk.drew HB.out).far hne1 _).cell 0, ((Bk.drew HL9.out.pt).far hne2 _).cell 0, ((Bk.drew HBM.out).far hne3 _).cell 0, ((Bk.drew HL9.out.a).far hne4 _).cell 0, ((Bk.drew HL9.out.mo).far hne5 _).cell 0⟩
          have HRB : Hid (Bk ((W.drew).setCell ⟨h + 1, 0, none⟩ (.bool true)) (h + 1) 4 #[.bool true]) := by
            show Bk _ _ _ _
            have h := (Bk.drew HL9.out.re).put 0 (.bool true)
            simpa using h
          have HFZ : Hid (Fr NoBlk W0 ((W.drew).setCell ⟨h + 1, 0, none⟩ (.bool true))) := (HL9.out.fr.drew).step ((Fr.refl (fun j => j = h + 1) W.drew).setCell (p := ⟨h + 1, 0, none⟩) (fun _ => rfl) _) (fun i hi e => by have := HH.out; omega)
          have hr1 : (W.drew).cell? ⟨h + 1, 0, none⟩ = some (.bool false) := (Bk.drew HL9.out.re).cell 0
          have hr2 : (W.drew).frozen? ⟨h + 1, 0, none⟩ = false := (Bk.drew HL9.out.re).free 0
          have HKD2 : Hid (((W.drew).setCell ⟨h + 1, 0, none⟩ (.bool true)).heap[D]? = some (.deferred (some []))) := (Below.heap_setCell _ _ _ _ (by show D ≠ h + 1; have := HZ8.out; omega)).trans HKD.out
          have e1 : ((m : Int) == (nx : Int)) = true := by
            have := congrArg List.length hS
            rw [List.length_drop] at this
            have := HIL.out
            exact beq_iff_eq.2 (by omega)
          clear hS hm
          clear hb hl hD hK hnx hgb hz1 hlo hne1 hne2 hne3 hne4 hne5
          go_wp2_with fail
          refine wp_onlyN ?_
          refine wp_region_held_drew (S := fun w' => w'.cell? ⟨ga + 1, 0, none⟩ = some (.int .i64 (m : Int)) ∧ w'.cell? ⟨gm + 1, 0, none⟩ = some (.pointer (some ⟨gm, 0, none⟩)) ∧ w'.cell? ⟨gm, 0, none⟩ = some (.slice A1 nx c1) ∧ w'.cell? ⟨ga, 0, none⟩ = some (.int .i64 (i : Int)) ∧ w'.cell? ⟨h, 0, none⟩ = some (.int .i64 most)) (by kernel_rfl) HSD.out (fun hHeld => ?_)
          refine wpAnyH_take (i := 0) (oi := ⟨some 99, _, _, _, _, _⟩) (v := ?_) rfl (by kernel_rfl) (by kernel_rfl) (by kernel_rfl) (fun _ _ _ h => h) (Or.inl ⟨by rfl, ?_⟩) (by assumption) ?_
          rotate_left 1
          · (intro w hSw; (try dsimp only at hSw); obtain ⟨hSn, hSp, hSm, hSa, hSh⟩ := hSw; go_simp) <;> (with_reducible rfl)
          try simp only [Act.put, List.setIfInBounds_toArray, List.set_cons_zero, List.set_cons_succ]
          refine wpAnyH_take (i := 1) (oi := ⟨some 100, _, _, _, _, _⟩) (v := ?_) rfl (by kernel_rfl) (by kernel_rfl) (by kernel_rfl) (fun _ _ _ h => h) (Or.inl ⟨by rfl, ?_⟩) (by assumption) ?_
          rotate_left 1
          · (intro w hSw; (try dsimp only at hSw); obtain ⟨hSn, hSp, hSm, hSa, hSh⟩ := hSw; go_simp) <;> (with_reducible rfl)
          try simp only [Act.put, List.setIfInBounds_toArray, List.set_cons_zero, List.set_cons_succ]
          refine wpAnyH_take (i := 2) (oi := ⟨some 101, _, _, _, _, _⟩) (v := ?_) rfl (by kernel_rfl) (by kernel_rfl) (by kernel_rfl) (fun _ _ _ h => h) (Or.inl ⟨by rfl, ?_⟩) (by assumption) ?_
          rotate_left 1
          · (intro w hSw; (try dsimp only at hSw); obtain ⟨hSn, hSp, hSm, hSa, hSh⟩ := hSw; go_simp) <;> (with_reducible rfl)
          try simp only [Act.put, List.setIfInBounds_toArray, List.set_cons_zero, List.set_cons_succ]
          refine wpAnyH_take (i := 3) (oi := ⟨some 102, _, _, _, _, _⟩) (v := ?_) rfl (by kernel_rfl) (by kernel_rfl) (by kernel_rfl) (fun _ _ _ h => h) (Or.inl ⟨by rfl, ?_⟩) (by assumption) ?_
          rotate_left 1
          · (intro w hSw; (try dsimp only at hSw); obtain ⟨hSn, hSp, hSm, hSa, hSh⟩ := hSw; go_simp) <;> (with_reducible rfl)
          try simp only [Act.put, List.setIfInBounds_toArray, List.set_cons_zero, List.set_cons_succ]
          refine wpAnyH_take (i := 4) (oi := ⟨some 103, _, _, _, _, _⟩) (v := ?_) rfl (by kernel_rfl) (by kernel_rfl) (by kernel_rfl) (fun _ _ _ h => h) (Or.inl ⟨by rfl, ?_⟩) (by assumption) ?_
          rotate_left 1
          · (intro w hSw; (try dsimp only at hSw); obtain ⟨hSn, hSp, hSm, hSa, hSh⟩ := hSw; go_simp) <;> (with_reducible rfl)
          try simp only [Act.put, List.setIfInBounds_toArray, List.set_cons_zero, List.set_cons_succ]
          refine wpAnyH_take (i := 5) (oi := ⟨some 104, _, _, _, _, _⟩) (v := ?_) rfl (by kernel_rfl) (by kernel_rfl) (by kernel_rfl) (fun _ _ _ h => h) (Or.inl ⟨by rfl, ?_⟩) (by assumption) ?_
          rotate_left 1
          · (intro w hSw; (try dsimp only at hSw); obtain ⟨hSn, hSp, hSm, hSa, hSh⟩ := hSw; go_simp) <;> (with_reducible rfl)
          try simp only [Act.put, List.setIfInBounds_toArray, List.set_cons_zero, List.set_cons_succ]
          refine wpAnyH_take (i := 6) (oi := ⟨some 105, _, _, _, _, _⟩) (v := ?_) rfl (by kernel_rfl) (by kernel_rfl) (by kernel_rfl) (fun _ _ _ h => h) (Or.inl ⟨by rfl, ?_⟩) (by assumption) ?_
          rotate_left 1
          · (intro w hSw; (try dsimp only at hSw); obtain ⟨hSn, hSp, hSm, hSa, hSh⟩ := hSw; go_simp) <;> (with_reducible rfl)
          try simp only [Act.put, List.setIfInBounds_toArray, List.set_cons_zero, List.set_cons_succ]
          refine wpAnyH_take (i := 7) (oi := ⟨some 106, _, _, _, _, _⟩) (v := ?_) rfl (by kernel_rfl) (by kernel_rfl) (by kernel_rfl) (fun _ _ _ h => h) (Or.inl ⟨by rfl, ?_⟩) (by assumption) ?_
          rotate_left 1
          · (intro w hSw; (try dsimp only at hSw); obtain ⟨hSn, hSp, hSm, hSa, hSh⟩ := hSw; go_simp) <;> (with_reducible rfl)
          try simp only [Act.put, List.setIfInBounds_toArray, List.set_cons_zero, List.set_cons_succ]
          refine wpAnyH_take (i := 8) (oi := ⟨some 107, _, _, _, _, _⟩) (v := undef) rfl (by kernel_rfl) (by kernel_rfl) (by kernel_rfl) (fun _ _ _ h => h) (Or.inr ⟨by rfl, rfl⟩) (by assumption) ?_
          try simp only [Act.put, List.setIfInBounds_toArray, List.set_cons_zero, List.set_cons_succ]
          refine wpAnyH_take (i := 9) (oi := ⟨some 108, _, _, _, _, _⟩) (v := undef) rfl (by kernel_rfl) (by kernel_rfl) (by kernel_rfl) (fun _ _ _ h => h) (Or.inr ⟨by rfl, rfl⟩) (by assumption) ?_
          try simp only [Act.put, List.setIfInBounds_toArray, List.set_cons_zero, List.set_cons_succ]
          refine wpAnyH_take (i := 10) (oi := ⟨some 109, _, _, _, _, _⟩) (v := ?_) rfl (by kernel_rfl) (by kernel_rfl) (by kernel_rfl) (fun _ _ _ h => h) (Or.inl ⟨by rfl, ?_⟩) (by assumption) ?_
          rotate_left 1
          · (intro w hSw; (try dsimp only at hSw); obtain ⟨hSn, hSp, hSm, hSa, hSh⟩ := hSw; go_simp) <;> (with_reducible rfl)
          try simp only [Act.put, List.setIfInBounds_toArray, List.set_cons_zero, List.set_cons_succ]
          refine wpAnyH_take (i := 11) (oi := ⟨some 110, _, _, _, _, _⟩) (v := ?_) rfl (by kernel_rfl) (by kernel_rfl) (by kernel_rfl) (fun _ _ _ h => h) (Or.inl ⟨by rfl, ?_⟩) (by assumption) ?_
          rotate_left 1
          · (intro w hSw; (try dsimp only at hSw); obtain ⟨hSn, hSp, hSm, hSa, hSh⟩ := hSw; go_simp) <;> (with_reducible rfl)
          try simp only [Act.put, List.setIfInBounds_toArray, List.set_cons_zero, List.set_cons_succ]
          refine wpAnyH_take (i := 12) (oi := ⟨some 111, _, _, _, _, _⟩) (v := undef) rfl (by kernel_rfl) (by kernel_rfl) (by kernel_rfl) (fun _ _ _ h => h) (Or.inr ⟨by rfl, rfl⟩) (by assumption) ?_
          try simp only [Act.put, List.setIfInBounds_toArray, List.set_cons_zero, List.set_cons_succ]
          refine wpAnyH_take (i := 13) (oi := ⟨some 112, _, _, _, _, _⟩) (v := undef) rfl (by kernel_rfl) (by kernel_rfl) (by kernel_rfl) (fun _ _ _ h => h) (Or.inr ⟨by rfl, rfl⟩) (by assumption) ?_
          try simp only [Act.put, List.setIfInBounds_toArray, List.set_cons_zero, List.set_cons_succ]
          refine wpAnyH_take (i := 14) (oi := ⟨some 113, _, _, _, _, _⟩) (v := undef) rfl (by kernel_rfl) (by kernel_rfl) (by kernel_rfl) (fun _ _ _ h => h) (Or.inr ⟨by rfl, rfl⟩) (by assumption) ?_
          try simp only [Act.put, List.setIfInBounds_toArray, List.set_cons_zero, List.set_cons_succ]
          refine wpAnyH_take (i := 15) (oi := ⟨some 114, _, _, _, _, _⟩) (v := undef) rfl (by kernel_rfl) (by kernel_rfl) (by kernel_rfl) (fun _ _ _ h => h) (Or.inr ⟨by rfl, rfl⟩) (by assumption) ?_
          try simp only [Act.put, List.setIfInBounds_toArray, List.set_cons_zero, List.set_cons_succ]
          refine wpAnyH_take (i := 16) (oi := ⟨some 115, _, _, _, _, _⟩) (v := undef) rfl (by kernel_rfl) (by kernel_rfl) (by kernel_rfl) (fun _ _ _ h => h) (Or.inr ⟨by rfl, rfl⟩) (by assumption) ?_
          try simp only [Act.put, List.setIfInBounds_toArray, List.set_cons_zero, List.set_cons_succ]
          refine wpAnyH_take (i := 17) (oi := ⟨some 116, _, _, _, _, _⟩) (v := ?_) rfl (by kernel_rfl) (by kernel_rfl) (by kernel_rfl) (fun _ _ _ h => h) (Or.inl ⟨by rfl, ?_⟩) (by assumption) ?_
          rotate_left 1
          · (intro w hSw; (try dsimp only at hSw); obtain ⟨hSn, hSp, hSm, hSa, hSh⟩ := hSw; go_simp) <;> (with_reducible rfl)
          try simp only [Act.put, List.setIfInBounds_toArray, List.set_cons_zero, List.set_cons_succ]
          refine wpAnyH_ready (rs := [18]) (by kernel_rfl) (by simp) ?_
          refine AllReadyH.cons (o := ⟨none, _, _, _, _, _⟩) rfl (fun K hK => ?_) AllReadyH.nil
          clear hHeld
          go_simp
          refine hK.out _ _ ?_ (fun hHeld => ?_)
          · exact HSE.out
          clear hK K hHeld
          try simp only [Act.put, List.setIfInBounds_toArray, List.set_cons_zero, List.set_cons_succ]
          refine wpAnyH_done (by kernel_rfl) ?_ _
          unfold onlyN
          dsimp only
          have e0 : ((W.drew).setCell ⟨h + 1, 0, none⟩ (.bool true)).heap[D]? = some (.deferred (some [])) := HKD2.out
          go_wp2_with fail
          have hfin : Fr NoBlk W0 (((W.drew).setCell ⟨h + 1, 0, none⟩ (.bool true)).putObj D (.deferred none)) := HFZ.out.grown (grownBy_putObj' _ D _) fun r e hl => by
            cases e
            have := HD.out
            have := HH.out
            have := HZ8.out
            have := HBL.out.2.2
            omega
          have hrb : Bk (((W.drew).setCell ⟨h + 1, 0, none⟩ (.bool true)).putObj D (.deferred none)) (h + 1) 4 #[.bool true] := HRB.out.others (grownBy_putObj' _ D _) fun r e => by cases e; exact ⟨_, HKD2.out, rfl⟩
          refine ⟨by simp, .inl ⟨_, _, rfl, run_takeDeferred HKD2.out, ?_⟩⟩
          exact ⟨_, res_cell rfl rfl (load_bool (hrb.cell 0)), rfl, hfin⟩
        case stop =>
          rintro D c' pre W hD hS hI hK
          rcases hI with ⟨rfl, hge, hle, hl, hb⟩ | hno
          rotate_left
          · exact absurd hS hno
          refine wpIn_wide.2 ?_
          obtain ⟨q, hq⟩ : ∃ q, q = pre.dropLast.length := ⟨_, rfl⟩
          have HMS : Hid (q ≤ 99990) := by
            show q ≤ _
            have h1 : pre.length ≤ (xs.drop i).length := List.IsPrefix.length_le hS
            rw [List.length_drop] at h1
            rw [hq, List.length_dropLast]
            have := HL.out
            omega
          rw [← hq] at hge hle hb
          clear hq hS
          have HNX0 : ∃ nx, nx = xs.length := ⟨_, rfl⟩
          obtain ⟨nx, hnx⟩ := HNX0
          have HNX := Lib.hid hnx
          obtain ⟨m, hm⟩ : ∃ m, m = i + q := ⟨_, rfl⟩
          rw [← hm] at hb
          have HB := Lib.hid hb
          have HL9 := Lib.hid hl
          have HD := Lib.hid hD
          have HKD := Lib.hid hK
          have hgb := hl.r.gb
          have hz1 := HZ1.out
          have hlo := HBL.out.2.2
          have hne1 : ga + 1 ≠ h + 1 := by omega
          have hne2 : gm + 1 ≠ h + 1 := by omega
          have hne3 : gm ≠ h + 1 := by omega
          have hne4 : ga ≠ h + 1 := by omega
          have hne5 : h ≠ h + 1 := by omega
          have HBM : Hid (Bk W gm 30 #[.slice A1 nx c1]) := by show Bk _ _ _ _; rw [hnx]; exact hl.r.bk
          have HSD : Hid ((W.drew).cell? ⟨ga + 1, 0, none⟩ = some (.int .i64 (m : Int)) ∧ (W.drew).cell? ⟨gm + 1, 0, none⟩ = some (.pointer (some ⟨gm, 0, none⟩)) ∧ (W.drew).cell? ⟨gm, 0, none⟩ = some (.slice A1 nx c1) ∧ (W.drew).cell? ⟨ga, 0, none⟩ = some (.int .i64 (i : Int)) ∧ (W.drew).cell? ⟨h, 0, none⟩ = some (.int .i64 most)) := ⟨HB.out.cell 0, HL9.out.pt.cell 0, HBM.out.cell 0, HL9.out.a.cell 0, HL9.out.mo.cell 0⟩
          have HSE : Hid (((W.drew).setCell ⟨h + 1, 0, none⟩ (.bool true)).cell? ⟨ga + 1, 0, none⟩ = some (.int .i64 (m : Int)) ∧ ((W.drew).setCell ⟨h + 1, 0, none⟩ (.bool true)).cell? ⟨gm + 1, 0, none⟩ = some (.pointer (some ⟨gm, 0, none⟩)) ∧ ((W.drew).setCell ⟨h + 1, 0, none⟩ (.bool true)).cell? ⟨gm, 0, none⟩ = some (.slice A1 nx c1) ∧ ((W.drew).setCell ⟨h + 1, 0, none⟩ (.bool true)).cell? ⟨ga, 0, none⟩ = some (.int .i64 (i : Int)) ∧ ((W.drew).setCell ⟨h + 1, 0, none⟩ (.bool true)).cell? ⟨h, 0, none⟩ = some (.int .i64 most)) := ⟨((Bk.drew HB.out).far hne1 _).cell 0, ((Bk.drew HL9.out.pt).far hne2 _).cell 0, ((Bk.drew HBM.out).far hne3 _).cell 0, ((Bk.drew HL9.out.a).far hne4 _).cell 0, ((Bk.drew HL9.out.mo).far hne5 _).cell 0⟩
          have HRB : Hid (Bk ((W.drew).setCell ⟨h + 1, 0, none⟩ (.bool true)) (h + 1) 4 #[.bool true]) := by
            show Bk _ _ _ _
            have h := (Bk.drew HL9.out.re).put 0 (.bool true)
            simpa using h
          have HFZ : Hid (Fr NoBlk W0 ((W.drew).setCell ⟨h + 1, 0, none⟩ (.bool true))) := (HL9.out.fr.drew).step ((Fr.refl (fun j => j = h + 1) W.drew).setCell (p := ⟨h + 1, 0, none⟩) (fun _ => rfl) _) (fun i hi e => by have := HH.out; omega)
          have hr1 : (W.drew).cell? ⟨h + 1, 0, none⟩ = some (.bool false) := (Bk.drew HL9.out.re).cell 0
          have hr2 : (W.drew).frozen? ⟨h + 1, 0, none⟩ = false := (Bk.drew HL9.out.re).free 0
          have HKD2 : Hid (((W.drew).setCell ⟨h + 1, 0, none⟩ (.bool true)).heap[D]? = some (.deferred (some []))) := (Below.heap_setCell _ _ _ _ (by show D ≠ h + 1; have := HZ8.out; omega)).trans HKD.out
          have hql : m ≤ nx ∨ True := .inr trivial
          have hor : m = nx ∨ (m ≠ nx ∧ most < 0) ∨ (m ≠ nx ∧ ¬ most < 0 ∧ (q : Int) = most) := by omega
          clear hge hle hql
          clear hb hl hD hK hnx hgb hz1 hlo hne1 hne2 hne3 hne4 hne5
          rcases hor with h1 | ⟨h1, h2⟩ | ⟨h1, h2, h3⟩
          · have e1 : ((m : Int) == (nx : Int)) = true := beq_iff_eq.2 (by omega)
            clear h1 hm
            go_wp2_with fail
            refine wp_onlyN ?_
            refine wp_region_held_drew (S := fun w' => w'.cell? ⟨ga + 1, 0, none⟩ = some (.int .i64 (m : Int)) ∧ w'.cell? ⟨gm + 1, 0, none⟩ = some (.pointer (some ⟨gm, 0, none⟩)) ∧ w'.cell? ⟨gm, 0, none⟩ = some (.slice A1 nx c1) ∧ w'.cell? ⟨ga, 0, none⟩ = some (.int .i64 (i : Int)) ∧ w'.cell? ⟨h, 0, none⟩ = some (.int .i64 most)) (by kernel_rfl) HSD.out (fun hHeld => ?_)
            refine wpAnyH_take (i := 0) (oi := ⟨some 99, _, _, _, _, _⟩) (v := ?_) rfl (by kernel_rfl) (by kernel_rfl) (by kernel_rfl) (fun _ _ _ h => h) (Or.inl ⟨by rfl, ?_⟩) (by assumption) ?_
            rotate_left 1
            · (intro w hSw; (try dsimp only at hSw); obtain ⟨hSn, hSp, hSm, hSa, hSh⟩ := hSw; go_simp) <;> (with_reducible rfl)
            try simp only [Act.put, List.setIfInBounds_toArray, List.set_cons_zero, List.set_cons_succ]
            refine wpAnyH_take (i := 1) (oi := ⟨some 100, _, _, _, _, _⟩) (v := ?_) rfl (by kernel_rfl) (by kernel_rfl) (by kernel_rfl) (fun _ _ _ h => h) (Or.inl ⟨by rfl, ?_⟩) (by assumption) ?_
            rotate_left 1
            · (intro w hSw; (try dsimp only at hSw); obtain ⟨hSn, hSp, hSm, hSa, hSh⟩ := hSw; go_simp) <;> (with_reducible rfl)
            try simp only [Act.put, List.setIfInBounds_toArray, List.set_cons_zero, List.set_cons_succ]
            refine wpAnyH_take (i := 2) (oi := ⟨some 101, _, _, _, _, _⟩) (v := ?_) rfl (by kernel_rfl) (by kernel_rfl) (by kernel_rfl) (fun _ _ _ h => h) (Or.inl ⟨by rfl, ?_⟩) (by assumption) ?_
            rotate_left 1
            · (intro w hSw; (try dsimp only at hSw); obtain ⟨hSn, hSp, hSm, hSa, hSh⟩ := hSw; go_simp) <;> (with_reducible rfl)
            try simp only [Act.put, List.setIfInBounds_toArray, List.set_cons_zero, List.set_cons_succ]
            refine wpAnyH_take (i := 3) (oi := ⟨some 102, _, _, _, _, _⟩) (v := ?_) rfl (by kernel_rfl) (by kernel_rfl) (by kernel_rfl) (fun _ _ _ h => h) (Or.inl ⟨by rfl, ?_⟩) (by assumption) ?_
            rotate_left 1
            · (intro w hSw; (try dsimp only at hSw); obtain ⟨hSn, hSp, hSm, hSa, hSh⟩ := hSw; go_simp) <;> (with_reducible rfl)
            try simp only [Act.put, List.setIfInBounds_toArray, List.set_cons_zero, List.set_cons_succ]
            refine wpAnyH_take (i := 4) (oi := ⟨some 103, _, _, _, _, _⟩) (v := ?_) rfl (by kernel_rfl) (by kernel_rfl) (by kernel_rfl) (fun _ _ _ h => h) (Or.inl ⟨by rfl, ?_⟩) (by assumption) ?_
            rotate_left 1
            · (intro w hSw; (try dsimp only at hSw); obtain ⟨hSn, hSp, hSm, hSa, hSh⟩ := hSw; go_simp) <;> (with_reducible rfl)
            try simp only [Act.put, List.setIfInBounds_toArray, List.set_cons_zero, List.set_cons_succ]
            refine wpAnyH_take (i := 5) (oi := ⟨some 104, _, _, _, _, _⟩) (v := ?_) rfl (by kernel_rfl) (by kernel_rfl) (by kernel_rfl) (fun _ _ _ h => h) (Or.inl ⟨by rfl, ?_⟩) (by assumption) ?_
            rotate_left 1
            · (intro w hSw; (try dsimp only at hSw); obtain ⟨hSn, hSp, hSm, hSa, hSh⟩ := hSw; go_simp) <;> (with_reducible rfl)
            try simp only [Act.put, List.setIfInBounds_toArray, List.set_cons_zero, List.set_cons_succ]
            refine wpAnyH_take (i := 6) (oi := ⟨some 105, _, _, _, _, _⟩) (v := ?_) rfl (by kernel_rfl) (by kernel_rfl) (by kernel_rfl) (fun _ _ _ h => h) (Or.inl ⟨by rfl, ?_⟩) (by assumption) ?_
            rotate_left 1
            · (intro w hSw; (try dsimp only at hSw); obtain ⟨hSn, hSp, hSm, hSa, hSh⟩ := hSw; go_simp) <;> (with_reducible rfl)
            try simp only [Act.put, List.setIfInBounds_toArray, List.set_cons_zero, List.set_cons_succ]
            refine wpAnyH_take (i := 7) (oi := ⟨some 106, _, _, _, _, _⟩) (v := ?_) rfl (by kernel_rfl) (by kernel_rfl) (by kernel_rfl) (fun _ _ _ h => h) (Or.inl ⟨by rfl, ?_⟩) (by assumption) ?_
            rotate_left 1
            · (intro w hSw; (try dsimp only at hSw); obtain ⟨hSn, hSp, hSm, hSa, hSh⟩ := hSw; go_simp) <;> (with_reducible rfl)
            try simp only [Act.put, List.setIfInBounds_toArray, List.set_cons_zero, List.set_cons_succ]
            refine wpAnyH_take (i := 8) (oi := ⟨some 107, _, _, _, _, _⟩) (v := undef) rfl (by kernel_rfl) (by kernel_rfl) (by kernel_rfl) (fun _ _ _ h => h) (Or.inr ⟨by rfl, rfl⟩) (by assumption) ?_
            try simp only [Act.put, List.setIfInBounds_toArray, List.set_cons_zero, List.set_cons_succ]
            refine wpAnyH_take (i := 9) (oi := ⟨some 108, _, _, _, _, _⟩) (v := undef) rfl (by kernel_rfl) (by kernel_rfl) (by kernel_rfl) (fun _ _ _ h => h) (Or.inr ⟨by rfl, rfl⟩) (by assumption) ?_
            try simp only [Act.put, List.setIfInBounds_toArray, List.set_cons_zero, List.set_cons_succ]
            refine wpAnyH_take (i := 10) (oi := ⟨some 109, _, _, _, _, _⟩) (v := ?_) rfl (by kernel_rfl) (by kernel_rfl) (by kernel_rfl) (fun _ _ _ h => h) (Or.inl ⟨by rfl, ?_⟩) (by assumption) ?_
            rotate_left 1
            · (intro w hSw; (try dsimp only at hSw); obtain ⟨hSn, hSp, hSm, hSa, hSh⟩ := hSw; go_simp) <;> (with_reducible rfl)
            try simp only [Act.put, List.setIfInBounds_toArray, List.set_cons_zero, List.set_cons_succ]
            refine wpAnyH_take (i := 11) (oi := ⟨some 110, _, _, _, _, _⟩) (v := ?_) rfl (by kernel_rfl) (by kernel_rfl) (by kernel_rfl) (fun _ _ _ h => h) (Or.inl ⟨by rfl, ?_⟩) (by assumption) ?_
            rotate_left 1
            · (intro w hSw; (try dsimp only at hSw); obtain ⟨hSn, hSp, hSm, hSa, hSh⟩ := hSw; go_simp) <;> (with_reducible rfl)
            try simp only [Act.put, List.setIfInBounds_toArray, List.set_cons_zero, List.set_cons_succ]
            refine wpAnyH_take (i := 12) (oi := ⟨some 111, _, _, _, _, _⟩) (v := undef) rfl (by kernel_rfl) (by kernel_rfl) (by kernel_rfl) (fun _ _ _ h => h) (Or.inr ⟨by rfl, rfl⟩) (by assumption) ?_
            try simp only [Act.put, List.setIfInBounds_toArray, List.set_cons_zero, List.set_cons_succ]
            refine wpAnyH_take (i := 13) (oi := ⟨some 112, _, _, _, _, _⟩) (v := undef) rfl (by kernel_rfl) (by kernel_rfl) (by kernel_rfl) (fun _ _ _ h => h) (Or.inr ⟨by rfl, rfl⟩) (by assumption) ?_
            try simp only [Act.put, List.setIfInBounds_toArray, List.set_cons_zero, List.set_cons_succ]
            refine wpAnyH_take (i := 14) (oi := ⟨some 113, _, _, _, _, _⟩) (v := undef) rfl (by kernel_rfl) (by kernel_rfl) (by kernel_rfl) (fun _ _ _ h => h) (Or.inr ⟨by rfl, rfl⟩) (by assumption) ?_
            try simp only [Act.put, List.setIfInBounds_toArray, List.set_cons_zero, List.set_cons_succ]
            refine wpAnyH_take (i := 15) (oi := ⟨some 114, _, _, _, _, _⟩) (v := undef) rfl (by kernel_rfl) (by kernel_rfl) (by kernel_rfl) (fun _ _ _ h => h) (Or.inr ⟨by rfl, rfl⟩) (by assumption) ?_
            try simp only [Act.put, List.setIfInBounds_toArray, List.set_cons_zero, List.set_cons_succ]
            refine wpAnyH_take (i := 16) (oi := ⟨some 115, _, _, _, _, _⟩) (v := undef) rfl (by kernel_rfl) (by kernel_rfl) (by kernel_rfl) (fun _ _ _ h => h) (Or.inr ⟨by rfl, rfl⟩) (by assumption) ?_
            try simp only [Act.put, List.setIfInBounds_toArray, List.set_cons_zero, List.set_cons_succ]
            refine wpAnyH_take (i := 17) (oi := ⟨some 116, _, _, _, _, _⟩) (v := ?_) rfl (by kernel_rfl) (by kernel_rfl) (by kernel_rfl) (fun _ _ _ h => h) (Or.inl ⟨by rfl, ?_⟩) (by assumption) ?_
            rotate_left 1
            · (intro w hSw; (try dsimp only at hSw); obtain ⟨hSn, hSp, hSm, hSa, hSh⟩ := hSw; go_simp) <;> (with_reducible rfl)
            try simp only [Act.put, List.setIfInBounds_toArray, List.set_cons_zero, List.set_cons_succ]
            refine wpAnyH_ready (rs := [18]) (by kernel_rfl) (by simp) ?_
            refine AllReadyH.cons (o := ⟨none, _, _, _, _, _⟩) rfl (fun K hK => ?_) AllReadyH.nil
            clear hHeld
            go_simp
            refine hK.out _ _ ?_ (fun hHeld => ?_)
            · exact HSE.out
            clear hK K hHeld
            try simp only [Act.put, List.setIfInBounds_toArray, List.set_cons_zero, List.set_cons_succ]
            refine wpAnyH_done (by kernel_rfl) ?_ _
            unfold onlyN
            dsimp only
            have e0 : ((W.drew).setCell ⟨h + 1, 0, none⟩ (.bool true)).heap[D]? = some (.deferred (some [])) := HKD2.out
            go_wp2_with fail
            have hfin : Fr NoBlk W0 (((W.drew).setCell ⟨h + 1, 0, none⟩ (.bool true)).putObj D (.deferred none)) := HFZ.out.grown (grownBy_putObj' _ D _) fun r e hl => by
              cases e
              have := HD.out
              have := HH.out
              have := HZ8.out
              have := HBL.out.2.2
              omega
            have hrb : Bk (((W.drew).setCell ⟨h + 1, 0, none⟩ (.bool true)).putObj D (.deferred none)) (h + 1) 4 #[.bool true] := HRB.out.others (grownBy_putObj' _ D _) fun r e => by cases e; exact ⟨_, HKD2.out, rfl⟩
            refine ⟨by simp, .inl ⟨_, _, rfl, run_takeDeferred HKD2.out, ?_⟩⟩
            exact ⟨_, res_cell rfl rfl (load_bool (hrb.cell 0)), rfl, hfin⟩
          · have e1 : ((m : Int) == (nx : Int)) = false := beq_eq_false_iff_ne.2 (by omega)
            have e2 : decide (most < 0) = true := decide_eq_true h2
            clear h1 hm
            go_wp2_with fail
            refine wp_onlyN ?_
            refine wp_region_held_drew (S := fun w' => w'.cell? ⟨ga + 1, 0, none⟩ = some (.int .i64 (m : Int)) ∧ w'.cell? ⟨gm + 1, 0, none⟩ = some (.pointer (some ⟨gm, 0, none⟩)) ∧ w'.cell? ⟨gm, 0, none⟩ = some (.slice A1 nx c1) ∧ w'.cell? ⟨ga, 0, none⟩ = some (.int .i64 (i : Int)) ∧ w'.cell? ⟨h, 0, none⟩ = some (.int .i64 most)) (by kernel_rfl) HSD.out (fun hHeld => ?_)
            refine wpAnyH_take (i := 0) (oi := ⟨some 99, _, _, _, _, _⟩) (v := ?_) rfl (by kernel_rfl) (by kernel_rfl) (by kernel_rfl) (fun _ _ _ h => h) (Or.inl ⟨by rfl, ?_⟩) (by assumption) ?_
            rotate_left 1
            · (intro w hSw; (try dsimp only at hSw); obtain ⟨hSn, hSp, hSm, hSa, hSh⟩ := hSw; go_simp) <;> (with_reducible rfl)
            try simp only [Act.put, List.setIfInBounds_toArray, List.set_cons_zero, List.set_cons_succ]
            refine wpAnyH_take (i := 1) (oi := ⟨some 100, _, _, _, _, _⟩) (v := ?_) rfl (by kernel_rfl) (by kernel_rfl) (by kernel_rfl) (fun _ _ _ h => h) (Or.inl ⟨by rfl, ?_⟩) (by assumption) ?_
            rotate_left 1
            · (intro w hSw; (try dsimp only at hSw); obtain ⟨hSn, hSp, hSm, hSa, hSh⟩ := hSw; go_simp) <;> (with_reducible rfl)
            try simp only [Act.put, List.setIfInBounds_toArray, List.set_cons_zero, List.set_cons_succ]
            refine wpAnyH_take (i := 2) (oi := ⟨some 101, _, _, _, _, _⟩) (v := ?_) rfl (by kernel_rfl) (by kernel_rfl) (by kernel_rfl) (fun _ _ _ h => h) (Or.inl ⟨by rfl, ?_⟩) (by assumption) ?_
            rotate_left 1
            · (intro w hSw; (try dsimp only at hSw); obtain ⟨hSn, hSp, hSm, hSa, hSh⟩ := hSw; go_simp) <;> (with_reducible rfl)
            try simp only [Act.put, List.setIfInBounds_toArray, List.set_cons_zero, List.set_cons_succ]
            refine wpAnyH_take (i := 3) (oi := ⟨some 102, _, _, _, _, _⟩) (v := ?_) rfl (by kernel_rfl) (by kernel_rfl) (by kernel_rfl) (fun _ _ _ h => h) (Or.inl ⟨by rfl, ?_⟩) (by assumption) ?_
            rotate_left 1
            · (intro w hSw; (try dsimp only at hSw); obtain ⟨hSn, hSp, hSm, hSa, hSh⟩ := hSw; go_simp) <;> (with_reducible rfl)
            try simp only [Act.put, List.setIfInBounds_toArray, List.set_cons_zero, List.set_cons_succ]
            refine wpAnyH_take (i := 4) (oi := ⟨some 103, _, _, _, _, _⟩) (v := ?_) rfl (by kernel_rfl) (by kernel_rfl) (by kernel_rfl) (fun _ _ _ h => h) (Or.inl ⟨by rfl, ?_⟩) (by assumption) ?_
            rotate_left 1
            · (intro w hSw; (try dsimp only at hSw); obtain ⟨hSn, hSp, hSm, hSa, hSh⟩ := hSw; go_simp) <;> (with_reducible rfl)
            try simp only [Act.put, List.setIfInBounds_toArray, List.set_cons_zero, List.set_cons_succ]
            refine wpAnyH_take (i := 5) (oi := ⟨some 104, _, _, _, _, _⟩) (v := ?_) rfl (by kernel_rfl) (by kernel_rfl) (by kernel_rfl) (fun _ _ _ h => h) (Or.inl ⟨by rfl, ?_⟩) (by assumption) ?_
            rotate_left 1
            · (intro w hSw; (try dsimp only at hSw); obtain ⟨hSn, hSp, hSm, hSa, hSh⟩ := hSw; go_simp) <;> (with_reducible rfl)
            try simp only [Act.put, List.setIfInBounds_toArray, List.set_cons_zero, List.set_cons_succ]
            refine wpAnyH_take (i := 6) (oi := ⟨some 105, _, _, _, _, _⟩) (v := ?_) rfl (by kernel_rfl) (by kernel_rfl) (by kernel_rfl) (fun _ _ _ h => h) (Or.inl ⟨by rfl, ?_⟩) (by assumption) ?_
            rotate_left 1
            · (intro w hSw; (try dsimp only at hSw); obtain ⟨hSn, hSp, hSm, hSa, hSh⟩ := hSw; go_simp) <;> (with_reducible rfl)
            try simp only [Act.put, List.setIfInBounds_toArray, List.set_cons_zero, List.set_cons_succ]
            refine wpAnyH_take (i := 7) (oi := ⟨some 106, _, _, _, _, _⟩) (v := ?_) rfl (by kernel_rfl) (by kernel_rfl) (by kernel_rfl) (fun _ _ _ h => h) (Or.inl ⟨by rfl, ?_⟩) (by assumption) ?_
            rotate_left 1
            · (intro w hSw; (try dsimp only at hSw); obtain ⟨hSn, hSp, hSm, hSa, hSh⟩ := hSw; go_simp) <;> (with_reducible rfl)
            try simp only [Act.put, List.setIfInBounds_toArray, List.set_cons_zero, List.set_cons_succ]
            refine wpAnyH_take (i := 8) (oi := ⟨some 107, _, _, _, _, _⟩) (v := ?_) rfl (by kernel_rfl) (by kernel_rfl) (by kernel_rfl) (fun _ _ _ h => h) (Or.inl ⟨by rfl, ?_⟩) (by assumption) ?_
            rotate_left 1
            · (intro w hSw; (try dsimp only at hSw); obtain ⟨hSn, hSp, hSm, hSa, hSh⟩ := hSw; go_simp) <;> (with_reducible rfl)
            try simp only [Act.put, List.setIfInBounds_toArray, List.set_cons_zero, List.set_cons_succ]
            refine wpAnyH_take (i := 9) (oi := ⟨some 108, _, _, _, _, _⟩) (v := ?_) rfl (by kernel_rfl) (by kernel_rfl) (by kernel_rfl) (fun _ _ _ h => h) (Or.inl ⟨by rfl, ?_⟩) (by assumption) ?_
            rotate_left 1
            · (intro w hSw; (try dsimp only at hSw); obtain ⟨hSn, hSp, hSm, hSa, hSh⟩ := hSw; go_simp) <;> (with_reducible rfl)
            try simp only [Act.put, List.setIfInBounds_toArray, List.set_cons_zero, List.set_cons_succ]
            refine wpAnyH_take (i := 10) (oi := ⟨some 109, _, _, _, _, _⟩) (v := ?_) rfl (by kernel_rfl) (by kernel_rfl) (by kernel_rfl) (fun _ _ _ h => h) (Or.inl ⟨by rfl, ?_⟩) (by assumption) ?_
            rotate_left 1
            · (intro w hSw; (try dsimp only at hSw); obtain ⟨hSn, hSp, hSm, hSa, hSh⟩ := hSw; go_simp) <;> (with_reducible rfl)
            try simp only [Act.put, List.setIfInBounds_toArray, List.set_cons_zero, List.set_cons_succ]
            refine wpAnyH_take (i := 11) (oi := ⟨some 110, _, _, _, _, _⟩) (v := ?_) rfl (by kernel_rfl) (by kernel_rfl) (by kernel_rfl) (fun _ _ _ h => h) (Or.inl ⟨by rfl, ?_⟩) (by assumption) ?_
            rotate_left 1
            · (intro w hSw; (try dsimp only at hSw); obtain ⟨hSn, hSp, hSm, hSa, hSh⟩ := hSw; go_simp) <;> (with_reducible rfl)
            try simp only [Act.put, List.setIfInBounds_toArray, List.set_cons_zero, List.set_cons_succ]
            refine wpAnyH_take (i := 12) (oi := ⟨some 111, _, _, _, _, _⟩) (v := undef) rfl (by kernel_rfl) (by kernel_rfl) (by kernel_rfl) (fun _ _ _ h => h) (Or.inr ⟨by rfl, rfl⟩) (by assumption) ?_
            try simp only [Act.put, List.setIfInBounds_toArray, List.set_cons_zero, List.set_cons_succ]
            refine wpAnyH_take (i := 13) (oi := ⟨some 112, _, _, _, _, _⟩) (v := undef) rfl (by kernel_rfl) (by kernel_rfl) (by kernel_rfl) (fun _ _ _ h => h) (Or.inr ⟨by rfl, rfl⟩) (by assumption) ?_
            try simp only [Act.put, List.setIfInBounds_toArray, List.set_cons_zero, List.set_cons_succ]
            refine wpAnyH_take (i := 14) (oi := ⟨some 113, _, _, _, _, _⟩) (v := undef) rfl (by kernel_rfl) (by kernel_rfl) (by kernel_rfl) (fun _ _ _ h => h) (Or.inr ⟨by rfl, rfl⟩) (by assumption) ?_
            try simp only [Act.put, List.setIfInBounds_toArray, List.set_cons_zero, List.set_cons_succ]
            refine wpAnyH_take (i := 15) (oi := ⟨some 114, _, _, _, _, _⟩) (v := undef) rfl (by kernel_rfl) (by kernel_rfl) (by kernel_rfl) (fun _ _ _ h => h) (Or.inr ⟨by rfl, rfl⟩) (by assumption) ?_
            try simp only [Act.put, List.setIfInBounds_toArray, List.set_cons_zero, List.set_cons_succ]
            refine wpAnyH_take (i := 16) (oi := ⟨some 115, _, _, _, _, _⟩) (v := undef) rfl (by kernel_rfl) (by kernel_rfl) (by kernel_rfl) (fun _ _ _ h => h) (Or.inr ⟨by rfl, rfl⟩) (by assumption) ?_
            try simp only [Act.put, List.setIfInBounds_toArray, List.set_cons_zero, List.set_cons_succ]
            refine wpAnyH_take (i := 17) (oi := ⟨some 116, _, _, _, _, _⟩) (v := ?_) rfl (by kernel_rfl) (by kernel_rfl) (by kernel_rfl) (fun _ _ _ h => h) (Or.inl ⟨by rfl, ?_⟩) (by assumption) ?_
            rotate_left 1
            · (intro w hSw; (try dsimp only at hSw); obtain ⟨hSn, hSp, hSm, hSa, hSh⟩ := hSw; go_simp) <;> (with_reducible rfl)
            try simp only [Act.put, List.setIfInBounds_toArray, List.set_cons_zero, List.set_cons_succ]
            refine wpAnyH_ready (rs := [18]) (by kernel_rfl) (by simp) ?_
            refine AllReadyH.cons (o := ⟨none, _, _, _, _, _⟩) rfl (fun K hK => ?_) AllReadyH.nil
            clear hHeld
            go_simp
            refine hK.out _ _ ?_ (fun hHeld => ?_)
            · exact HSE.out
            clear hK K hHeld
            try simp only [Act.put, List.setIfInBounds_toArray, List.set_cons_zero, List.set_cons_succ]
            refine wpAnyH_done (by kernel_rfl) ?_ _
            unfold onlyN
            dsimp only
            have e0 : ((W.drew).setCell ⟨h + 1, 0, none⟩ (.bool true)).heap[D]? = some (.deferred (some [])) := HKD2.out
            go_wp2_with fail
            have hfin : Fr NoBlk W0 (((W.drew).setCell ⟨h + 1, 0, none⟩ (.bool true)).putObj D (.deferred none)) := HFZ.out.grown (grownBy_putObj' _ D _) fun r e hl => by
              cases e
              have := HD.out
              have := HH.out
              have := HZ8.out
              have := HBL.out.2.2
              omega
            have hrb : Bk (((W.drew).setCell ⟨h + 1, 0, none⟩ (.bool true)).putObj D (.deferred none)) (h + 1) 4 #[.bool true] := HRB.out.others (grownBy_putObj' _ D _) fun r e => by cases e; exact ⟨_, HKD2.out, rfl⟩
            refine ⟨by simp, .inl ⟨_, _, rfl, run_takeDeferred HKD2.out, ?_⟩⟩
            exact ⟨_, res_cell rfl rfl (load_bool (hrb.cell 0)), rfl, hfin⟩
          · have e1 : ((m : Int) == (nx : Int)) = false := beq_eq_false_iff_ne.2 (by omega)
            have e2 : decide (most < 0) = false := decide_eq_false h2
            have e3 : IntKind.i64.wrap ((i : Int) + most) = (m : Int) := by rw [IntWalk.i64_in _ (by have := HIL.out; have := HL.out; have := HMS.out; omega)]; omega
            clear h1 hm h3
            go_wp2_with fail
            refine wp_onlyN ?_
            refine wp_region_held_drew (S := fun w' => w'.cell? ⟨ga + 1, 0, none⟩ = some (.int .i64 (m : Int)) ∧ w'.cell? ⟨gm + 1, 0, none⟩ = some (.pointer (some ⟨gm, 0, none⟩)) ∧ w'.cell? ⟨gm, 0, none⟩ = some (.slice A1 nx c1) ∧ w'.cell? ⟨ga, 0, none⟩ = some (.int .i64 (i : Int)) ∧ w'.cell? ⟨h, 0, none⟩ = some (.int .i64 most)) (by kernel_rfl) HSD.out (fun hHeld => ?_)
            refine wpAnyH_take (i := 0) (oi := ⟨some 99, _, _, _, _, _⟩) (v := ?_) rfl (by kernel_rfl) (by kernel_rfl) (by kernel_rfl) (fun _ _ _ h => h) (Or.inl ⟨by rfl, ?_⟩) (by assumption) ?_
            rotate_left 1
            · (intro w hSw; (try dsimp only at hSw); obtain ⟨hSn, hSp, hSm, hSa, hSh⟩ := hSw; go_simp) <;> (with_reducible rfl)
            try simp only [Act.put, List.setIfInBounds_toArray, List.set_cons_zero, List.set_cons_succ]
            refine wpAnyH_take (i := 1) (oi := ⟨some 100, _, _, _, _, _⟩) (v := ?_) rfl (by kernel_rfl) (by kernel_rfl) (by kernel_rfl) (fun _ _ _ h => h) (Or.inl ⟨by rfl, ?_⟩) (by assumption) ?_
            rotate_left 1
            · (intro w hSw; (try dsimp only at hSw); obtain ⟨hSn, hSp, hSm, hSa, hSh⟩ := hSw; go_simp) <;> (with_reducible rfl)
            try simp only [Act.put, List.setIfInBounds_toArray, List.set_cons_zero, List.set_cons_succ]
            refine wpAnyH_take (i := 2) (oi := ⟨some 101, _, _, _, _, _⟩) (v := ?_) rfl (by kernel_rfl) (by kernel_rfl) (by kernel_rfl) (fun _ _ _ h => h) (Or.inl ⟨by rfl, ?_⟩) (by assumption) ?_
            rotate_left 1
            · (intro w hSw; (try dsimp only at hSw); obtain ⟨hSn, hSp, hSm, hSa, hSh⟩ := hSw; go_simp) <;> (with_reducible rfl)
            try simp only [Act.put, List.setIfInBounds_toArray, List.set_cons_zero, List.set_cons_succ]
            refine wpAnyH_take (i := 3) (oi := ⟨some 102, _, _, _, _, _⟩) (v := ?_) rfl (by kernel_rfl) (by kernel_rfl) (by kernel_rfl) (fun _ _ _ h => h) (Or.inl ⟨by rfl, ?_⟩) (by assumption) ?_
            rotate_left 1
            · (intro w hSw; (try dsimp only at hSw); obtain ⟨hSn, hSp, hSm, hSa, hSh⟩ := hSw; go_simp) <;> (with_reducible rfl)
            try simp only [Act.put, List.setIfInBounds_toArray, List.set_cons_zero, List.set_cons_succ]
            refine wpAnyH_take (i := 4) (oi := ⟨some 103, _, _, _, _, _⟩) (v := ?_) rfl (by kernel_rfl) (by kernel_rfl) (by kernel_rfl) (fun _ _ _ h => h) (Or.inl ⟨by rfl, ?_⟩) (by assumption) ?_
            rotate_left 1
            · (intro w hSw; (try dsimp only at hSw); obtain ⟨hSn, hSp, hSm, hSa, hSh⟩ := hSw; go_simp) <;> (with_reducible rfl)
            try simp only [Act.put, List.setIfInBounds_toArray, List.set_cons_zero, List.set_cons_succ]
            refine wpAnyH_take (i := 5) (oi := ⟨some 104, _, _, _, _, _⟩) (v := ?_) rfl (by kernel_rfl) (by kernel_rfl) (by kernel_rfl) (fun _ _ _ h => h) (Or.inl ⟨by rfl, ?_⟩) (by assumption) ?_
            rotate_left 1
            · (intro w hSw; (try dsimp only at hSw); obtain ⟨hSn, hSp, hSm, hSa, hSh⟩ := hSw; go_simp) <;> (with_reducible rfl)
            try simp only [Act.put, List.setIfInBounds_toArray, List.set_cons_zero, List.set_cons_succ]
            refine wpAnyH_take (i := 6) (oi := ⟨some 105, _, _, _, _, _⟩) (v := ?_) rfl (by kernel_rfl) (by kernel_rfl) (by kernel_rfl) (fun _ _ _ h => h) (Or.inl ⟨by rfl, ?_⟩) (by assumption) ?_
            rotate_left 1
            · (intro w hSw; (try dsimp only at hSw); obtain ⟨hSn, hSp, hSm, hSa, hSh⟩ := hSw; go_simp) <;> (with_reducible rfl)
            try simp only [Act.put, List.setIfInBounds_toArray, List.set_cons_zero, List.set_cons_succ]
            refine wpAnyH_take (i := 7) (oi := ⟨some 106, _, _, _, _, _⟩) (v := ?_) rfl (by kernel_rfl) (by kernel_rfl) (by kernel_rfl) (fun _ _ _ h => h) (Or.inl ⟨by rfl, ?_⟩) (by assumption) ?_
            rotate_left 1
            · (intro w hSw; (try dsimp only at hSw); obtain ⟨hSn, hSp, hSm, hSa, hSh⟩ := hSw; go_simp) <;> (with_reducible rfl)
            try simp only [Act.put, List.setIfInBounds_toArray, List.set_cons_zero, List.set_cons_succ]
            refine wpAnyH_take (i := 8) (oi := ⟨some 107, _, _, _, _, _⟩) (v := ?_) rfl (by kernel_rfl) (by kernel_rfl) (by kernel_rfl) (fun _ _ _ h => h) (Or.inl ⟨by rfl, ?_⟩) (by assumption) ?_
            rotate_left 1
            · (intro w hSw; (try dsimp only at hSw); obtain ⟨hSn, hSp, hSm, hSa, hSh⟩ := hSw; go_simp) <;> (with_reducible rfl)
            try simp only [Act.put, List.setIfInBounds_toArray, List.set_cons_zero, List.set_cons_succ]
            refine wpAnyH_take (i := 9) (oi := ⟨some 108, _, _, _, _, _⟩) (v := ?_) rfl (by kernel_rfl) (by kernel_rfl) (by kernel_rfl) (fun _ _ _ h => h) (Or.inl ⟨by rfl, ?_⟩) (by assumption) ?_
            rotate_left 1
            · (intro w hSw; (try dsimp only at hSw); obtain ⟨hSn, hSp, hSm, hSa, hSh⟩ := hSw; go_simp) <;> (with_reducible rfl)
            try simp only [Act.put, List.setIfInBounds_toArray, List.set_cons_zero, List.set_cons_succ]
            refine wpAnyH_take (i := 10) (oi := ⟨some 109, _, _, _, _, _⟩) (v := ?_) rfl (by kernel_rfl) (by kernel_rfl) (by kernel_rfl) (fun _ _ _ h => h) (Or.inl ⟨by rfl, ?_⟩) (by assumption) ?_
            rotate_left 1
            · (intro w hSw; (try dsimp only at hSw); obtain ⟨hSn, hSp, hSm, hSa, hSh⟩ := hSw; go_simp) <;> (with_reducible rfl)
            try simp only [Act.put, List.setIfInBounds_toArray, List.set_cons_zero, List.set_cons_succ]
            refine wpAnyH_take (i := 11) (oi := ⟨some 110, _, _, _, _, _⟩) (v := ?_) rfl (by kernel_rfl) (by kernel_rfl) (by kernel_rfl) (fun _ _ _ h => h) (Or.inl ⟨by rfl, ?_⟩) (by assumption) ?_
            rotate_left 1
            · (intro w hSw; (try dsimp only at hSw); obtain ⟨hSn, hSp, hSm, hSa, hSh⟩ := hSw; go_simp) <;> (with_reducible rfl)
            try simp only [Act.put, List.setIfInBounds_toArray, List.set_cons_zero, List.set_cons_succ]
            refine wpAnyH_take (i := 12) (oi := ⟨some 111, _, _, _, _, _⟩) (v := ?_) rfl (by kernel_rfl) (by kernel_rfl) (by kernel_rfl) (fun _ _ _ h => h) (Or.inl ⟨by rfl, ?_⟩) (by assumption) ?_
            rotate_left 1
            · (intro w hSw; (try dsimp only at hSw); obtain ⟨hSn, hSp, hSm, hSa, hSh⟩ := hSw; go_simp) <;> (with_reducible rfl)
            try simp only [Act.put, List.setIfInBounds_toArray, List.set_cons_zero, List.set_cons_succ]
            refine wpAnyH_take (i := 13) (oi := ⟨some 112, _, _, _, _, _⟩) (v := ?_) rfl (by kernel_rfl) (by kernel_rfl) (by kernel_rfl) (fun _ _ _ h => h) (Or.inl ⟨by rfl, ?_⟩) (by assumption) ?_
            rotate_left 1
            · (intro w hSw; (try dsimp only at hSw); obtain ⟨hSn, hSp, hSm, hSa, hSh⟩ := hSw; go_simp) <;> (with_reducible rfl)
            try simp only [Act.put, List.setIfInBounds_toArray, List.set_cons_zero, List.set_cons_succ]
            refine wpAnyH_take (i := 14) (oi := ⟨some 113, _, _, _, _, _⟩) (v := ?_) rfl (by kernel_rfl) (by kernel_rfl) (by kernel_rfl) (fun _ _ _ h => h) (Or.inl ⟨by rfl, ?_⟩) (by assumption) ?_
            rotate_left 1
            · (intro w hSw; (try dsimp only at hSw); obtain ⟨hSn, hSp, hSm, hSa, hSh⟩ := hSw; go_simp) <;> (with_reducible rfl)
            try simp only [Act.put, List.setIfInBounds_toArray, List.set_cons_zero, List.set_cons_succ]
            refine wpAnyH_take (i := 15) (oi := ⟨some 114, _, _, _, _, _⟩) (v := ?_) rfl (by kernel_rfl) (by kernel_rfl) (by kernel_rfl) (fun _ _ _ h => h) (Or.inl ⟨by rfl, ?_⟩) (by assumption) ?_
            rotate_left 1
            · (intro w hSw; (try dsimp only at hSw); obtain ⟨hSn, hSp, hSm, hSa, hSh⟩ := hSw; go_simp) <;> (with_reducible rfl)
            try simp only [Act.put, List.setIfInBounds_toArray, List.set_cons_zero, List.set_cons_succ]
            refine wpAnyH_take (i := 16) (oi := ⟨some 115, _, _, _, _, _⟩) (v := ?_) rfl (by kernel_rfl) (by kernel_rfl) (by kernel_rfl) (fun _ _ _ h => h) (Or.inl ⟨by rfl, ?_⟩) (by assumption) ?_
            rotate_left 1
            · (intro w hSw; (try dsimp only at hSw); obtain ⟨hSn, hSp, hSm, hSa, hSh⟩ := hSw; go_simp) <;> (with_reducible rfl)
            try simp only [Act.put, List.setIfInBounds_toArray, List.set_cons_zero, List.set_cons_succ]
            refine wpAnyH_take (i := 17) (oi := ⟨some 116, _, _, _, _, _⟩) (v := ?_) rfl (by kernel_rfl) (by kernel_rfl) (by kernel_rfl) (fun _ _ _ h => h) (Or.inl ⟨by rfl, ?_⟩) (by assumption) ?_
            rotate_left 1
            · (intro w hSw; (try dsimp only at hSw); obtain ⟨hSn, hSp, hSm, hSa, hSh⟩ := hSw; go_simp) <;> (with_reducible rfl)
            try simp only [Act.put, List.setIfInBounds_toArray, List.set_cons_zero, List.set_cons_succ]
            refine wpAnyH_ready (rs := [18]) (by kernel_rfl) (by simp) ?_
            refine AllReadyH.cons (o := ⟨none, _, _, _, _, _⟩) rfl (fun K hK => ?_) AllReadyH.nil
            clear hHeld
            go_simp
            refine hK.out _ _ ?_ (fun hHeld => ?_)
            · exact HSE.out
            clear hK K hHeld
            try simp only [Act.put, List.setIfInBounds_toArray, List.set_cons_zero, List.set_cons_succ]
            refine wpAnyH_done (by kernel_rfl) ?_ _
            unfold onlyN
            dsimp only
            have e0 : ((W.drew).setCell ⟨h + 1, 0, none⟩ (.bool true)).heap[D]? = some (.deferred (some [])) := HKD2.out
            go_wp2_with fail
            have hfin : Fr NoBlk W0 (((W.drew).setCell ⟨h + 1, 0, none⟩ (.bool true)).putObj D (.deferred none)) := HFZ.out.grown (grownBy_putObj' _ D _) fun r e hl => by
              cases e
              have := HD.out
              have := HH.out
              have := HZ8.out
              have := HBL.out.2.2
              omega
            have hrb : Bk (((W.drew).setCell ⟨h + 1, 0, none⟩ (.bool true)).putObj D (.deferred none)) (h + 1) 4 #[.bool true] := HRB.out.others (grownBy_putObj' _ D _) fun r e => by cases e; exact ⟨_, HKD2.out, rfl⟩
            refine ⟨by simp, .inl ⟨_, _, rfl, run_takeDeferred HKD2.out, ?_⟩⟩
            exact ⟨_, res_cell rfl rfl (load_bool (hrb.cell 0)), rfl, hfin⟩

theorem paramsOk : ∀ t ∈ Try.f4.params.toList, Try.prog.readableRec t = true ∧ t < Try.prog.types.size := fun t ht => by
  have h := List.all_eq_true.1 (show (Try.f4.params.toList.all fun t => Try.prog.readableRec t && decide (t < Try.prog.types.size)) = true by kernel_rfl) t ht
  simpa using h

set_option maxRecDepth 100000 in
theorem lifted (os : Os) (started : os.Started) (H : Type) (enc : TypeId × Value → H) :
    ReturnsInHanded {} Try.checked os 4 .any (Rows.btreeRangesSpec.pre6 enc Try.prog Try.f4 Rows.btreeRangesRow.domain false) (Rows.btreeRangesSpec.post enc Try.prog Try.f4 false true false false) := by
  refine returnsInHanded_of_change (C := Try.checked) own started (by kernel_rfl) Try.func4
    (ChangeSpec.witness6 (enc := enc) (C := Try.checked) false ⟨#[], #[.slice none 0 0, .string ByteArray.empty, .int .i64 0], []⟩ 8 (by kernel_rfl) (by kernel_rfl) (by kernel_rfl) (by kernel_rfl)) ?_
  intro W base args ds gs before hval0 hW _ _
  have hval : ∀ (j : Nat) t v, Try.f4.params[j]? = some t → args[j]? = some v → Value.okWide Try.prog W .any base t v := hval0
  have hW' := hW
  obtain ⟨p, q, hA0, hV, rfl, _, _⟩ := hW
  have hA : DataW.TrodAll enc Try.prog W 0 (fun _ => true) true Try.f4.params.toList args.toList ds p := hA0
  rw [Try.params4] at hA hval
  obtain ⟨v0, vs0, d0, ds0, p0, q0, hargs, rfl, rfl, h0, r0⟩ := trodAll_cons hA
  obtain ⟨v1, vs1, d1, ds1, p1, q1, rfl, rfl, rfl, h1, r1⟩ := trodAll_cons r0
  obtain ⟨v2, vs2, d2, ds2, p2, q2, rfl, rfl, rfl, h2, r2⟩ := trodAll_cons r1
  obtain ⟨rfl, rfl, rfl⟩ := trodAll_nil r2
  obtain rfl : args = #[v0, v1, v2] := by cases args; simp_all
  obtain ⟨rfl, rfl⟩ := trodVars_none hV
  obtain ⟨A, c, l, rfl, hr, hx, hn, hm⟩ := open_opns (hval 0 _ v0 rfl rfl) h0
  obtain ⟨ky, rfl, rfl, rfl, wk⟩ := Go.ChangeMaps.open_string Try.underlying9 (hval 1 _ v1 rfl rfl) h1
  obtain ⟨z2, rfl, rfl, rfl, _⟩ := open_int Try.underlying3 (hval 2 _ v2 rfl rfl) h2
  have walk := walk W A c l ky.data.toList z2 hr hx (Nat.le_trans hn hm) (by rw [size_of]; exact wk)
  rw [bstr_eta] at walk
  clear hA0 hval0
  refine walk.mono fun e W' ⟨he, hf⟩ => ?_
  subst he
  exact ⟨_, rfl, law_post laidOut paramsOk rfl rfl Try.underlying4 hW' rfl rfl rfl hf⟩

theorem said : Rows.BtreeRangesSaid :=
  OpenClaim.holds_of_wide 4 Try.f4 rfl rfl rfl rfl rfl rfl rfl ⟨rfl, rfl, rfl, rfl, rfl⟩ rfl rfl rfl rfl rfl (by kernel_rfl) Try.func4 (by kernel_rfl)
    (of_decide_eq_true (by kernel_rfl)) (by unfold Func.isWrapper; first | (rw [if_pos (by decide +kernel)]; kernel_rfl) | (rw [if_neg (by decide +kernel)]; exact ⟨rfl, rfl⟩))
    (fun os started H enc _ => lifted os started H enc)
end Go.Proofs.Ytcpgonioobgpoaa.btreeRanges
