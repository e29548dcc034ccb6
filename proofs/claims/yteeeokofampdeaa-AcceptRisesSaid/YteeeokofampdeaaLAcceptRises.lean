/- AcceptRises is true: what is promised never falls, no place's ballot does, nothing is taken below a promised ballot. No condition. -/
import Derived.Test.YteeeokofampdeaaOpA
import Derived.Test.YteeeokofampdeaaVoKU
import Derived.Deep.LoopGhost
import Derived.Deep.WholeRow
import Derived.Great.Walk
import Derived.Deep.QuietTactic
import Derived.Deep.DeepCutAuto
import Derived.BigQuiet
namespace Go.Proofs.Yteeeokofampdeaa.acceptRises
open Go.ChangeShapes Go.WideShapes Go.ChangeAt Go.RowKit

theorem quiet_left {P : Program} {f : FuncId} {args : Array Value} {w : World} {n : Nat} {v : Value}
    (h : Calls P f args (w.drewN n) fun e w' => e = .returned v ∧ w.drewN n = w') : Calls P f args (w.drewN n) fun e w'' => e = .returned v ∧ ∃ m, w'' = w.drewN m :=
  h.mono fun _ _ ⟨he, hm⟩ => ⟨he, n, hm.symm⟩
theorem up_one {V : Type} {x y : Int × V} : ∀ {xs : List (Int × V)}, UpI ltI xs → x ∈ xs → y ∈ xs → x.1 = y.1 → x = y
  | [], _, h, _, _ => by cases h
  | z :: t, hu, hx, hy, e => by
    have hu' := List.pairwise_cons.1 hu
    rcases List.mem_cons.1 hx with h1 | h1 <;> rcases List.mem_cons.1 hy with h2 | h2
    · exact h1.trans h2.symm
    · subst h1; have := ltI_iff.1 (hu'.1 _ h2); omega
    · subst h2; have := ltI_iff.1 (hu'.1 _ h1); omega
    · exact up_one hu'.2 h1 h2 e
/-- the places' ballots as cells. -/
def atc (at' : List Nat) : Array Value := (at'.map fun a : Nat => Value.int .u64 (a : Int)).toArray
theorem atc_get {at' : List Nat} {j a : Nat} (h : at'[j]? = some a) : (atc at')[j]? = some (.int .u64 (a : Int)) := by
  simp [atc, h]
theorem atc_set (at' : List Nat) (j a : Nat) : (atc at').setIfInBounds j (.int .u64 (a : Int)) = atc (at'.set j a) := by
  simp [atc]
/-- ballots, places and votes go together. -/
structure Ats (p : Nat) (xs : List ItU) (at' : List Nat) : Prop where
  len : at'.length = 64
  le : ∀ a ∈ at', a ≤ p
  up : ∀ x ∈ xs, ∀ a, at'[x.1.toNat]? = some a → a ≤ x.2.bal
  top : ∀ x ∈ xs, x.2.bal ≤ p
theorem Ats.higher {p p' : Nat} {xs : List ItU} {at' : List Nat} (h : Ats p xs at') (hp : p ≤ p') : Ats p' xs at' :=
  ⟨h.len, fun a ha => Nat.le_trans (h.le a ha) hp, h.up, fun x hx => Nat.le_trans (h.top x hx) hp⟩
theorem Ats.took {p : Nat} {xs : List ItU} {at' : List Nat} (h : Ats p xs at') (v : VaU) (hp : p ≤ v.bal) : Ats v.bal (putL ltI v.slot v xs) at' := by
  refine ⟨h.len, fun a ha => Nat.le_trans (h.le a ha) hp, fun x hx a ha => ?_, fun x hx => ?_⟩
  · rcases mem_putL.1 hx with e | ⟨hx, _⟩
    · subst e
      exact Nat.le_trans (h.le a (List.mem_of_getElem? ha)) hp
    · exact h.up x hx a ha
  · rcases mem_putL.1 hx with e | ⟨hx, _⟩
    · subst e; exact Nat.le_refl _
    · exact Nat.le_trans (h.top x hx) hp
theorem Ats.seen {p : Nat} {xs : List ItU} {at' : List Nat} (h : Ats p xs at') (hu : UpI ltI xs) (ho : ∀ x ∈ xs, x.2.slot = x.1 ∧ 0 ≤ x.1 ∧ x.1 < 64) {x : ItU} (hx : x ∈ xs) : Ats p xs (at'.set x.1.toNat x.2.bal) := by
  refine ⟨by rw [List.length_set]; exact h.len, fun a ha => ?_, fun y hy a ha => ?_, h.top⟩
  · rcases List.mem_or_eq_of_mem_set ha with ha | rfl
    · exact h.le a ha
    · exact h.top x hx
  · by_cases e : x.1.toNat = y.1.toNat
    · have h1 := ho x hx
      have h2 := ho y hy
      have := up_one hu hx hy (by omega)
      subst this
      rw [List.getElem?_set_self (by rw [h.len]; omega)] at ha
      injection ha with ha
      omega
    · rw [List.getElem?_set_ne e] at ha
      exact h.up y hy a ha
/-- how a call went. -/
def Went (ok : Bool) (p pp bal : Nat) : Prop := (ok = true ∧ p ≤ bal ∧ bal = pp) ∨ (ok = false ∧ p = pp)
/-- what stands between two rounds. -/
def Inv (W : World) (q4 g gt p : Nat) (wr : World) : Prop :=
  ∃ xs at', VoKU W (fun b => b = q4) g gt p xs wr ∧ Bk wr q4 52 (atc at') ∧ Ats p xs at' ∧ W.heap.size ≤ q4
/-- what stands within the inner loop: A is the row of the votes. -/
def InvI (W : World) (q4 g gt p : Nat) (xs : List ItU) (A : Option Addr) (wr : World) : Prop :=
  ∃ at', VoKU W (fun b => b = q4) g gt p xs wr ∧ Bk wr q4 52 (atc at') ∧ Ats p xs at' ∧ W.heap.size ≤ q4 ∧ Rd wr A (valsU xs) ∧ ∀ b, ablk A b → b ≠ q4
theorem valsU_get (xs : List ItU) (k : Nat) (x : ItU) (h : xs[k]? = some x) (j : Nat) (hj : j < 3) : (valsU xs)[k * 3 + j]? = (valcU x)[j]? := by
  induction xs generalizing k with
  | nil => cases h
  | cons y t ih =>
    cases k with
    | zero =>
      injection h with h
      subst h
      show (valcU y ++ valsU t)[_]? = _
      rw [List.getElem?_append_left (by show _ < 3; omega), Nat.zero_mul, Nat.zero_add]
    | succ k =>
      show (valcU y ++ valsU t)[_]? = _
      rw [List.getElem?_append_right (by show 3 ≤ _; omega), show (k + 1) * 3 + j - (valcU y).length = k * 3 + j from by show _ - 3 = _; omega]
      exact ih k h
theorem valsU_len (xs : List ItU) : (valsU xs).length = xs.length * 3 := by
  induction xs with
  | nil => rfl
  | cons x t ih =>
    show (valcU x ++ valsU t).length = _
    rw [List.length_append, ih, List.length_cons]
    show 3 + _ = _
    omega
theorem Rd.vote {w : World} {A : Option Addr} {xs : List ItU} (h : Rd w A (valsU xs)) {k : Nat} {x : ItU} (hx : xs[k]? = some x) :
    ∃ b o, A = some ⟨b, o, none⟩ ∧ w.cell? ⟨b, o + k * 3, none⟩ = some (.int .i64 x.2.slot) ∧ w.cell? ⟨b, o + k * 3 + 1, none⟩ = some (.int .u64 (x.2.bal : Int)) ∧ w.cell? ⟨b, o + k * 3 + 2, none⟩ = some (.int .i64 x.2.val) := by
  have hk := (List.getElem?_eq_some_iff.1 hx).1
  obtain ⟨b, o, rfl, hc⟩ := h (by rw [valsU_len]; omega)
  refine ⟨b, o, rfl, ?_, ?_, ?_⟩
  · exact hc _ _ ((valsU_get xs k x hx 0 (by omega)).trans rfl)
  · exact hc _ _ ((valsU_get xs k x hx 1 (by omega)).trans rfl)
  · exact hc _ _ ((valsU_get xs k x hx 2 (by omega)).trans rfl)
theorem own_new {w : World} {base : Nat} {e : TypeId} {size n : Nat} {A : Option Addr} {m c : Nat} {xs : List Value} (h : w.ownsRow base e size (.slice A m c) n xs) : ∀ b, ablk A b → base ≤ b := by
  rintro b ⟨x, rfl, rfl⟩
  rcases h.2 with ⟨hv, _⟩ | ⟨g, cap, cur, hv, hb, _⟩
  · cases hv
  · injection hv with hv _ _
    injection hv with hv
    subst hv
    exact hb

set_option maxRecDepth 100000 in
set_option maxHeartbeats 4000000 in
theorem walk (W : World) (A : Option Addr) (c : Nat) (l : List Opn) (hr : Rd W A (opsc l)) (_ : ∀ x ∈ l, OpIn x) (_ : l.length ≤ maxLen) :
    Calls Try.prog 4 #[.slice A l.length c] W fun e W' => e = .returned (.bool true) ∧ Fr NoBlk W W' := by
  have HS := Lib.hid (speaks_any W)
  have HR := Lib.hid hr
  obtain ⟨n, hn⟩ : ∃ n, n = l.length := ⟨_, rfl⟩
  have HN := Lib.hid hn
  rw [← hn]
  clear hr hn
  go_enter Try.func4, Try.ntmps4
  go_wp2_with fail
  refine HS.out.mono ?_
  clear HS
  rintro e w1 ⟨rfl, hf1⟩
  have HF1 := Lib.hid hf1
  clear hf1
  by_cases h200 : (200 : Int) < (n : Int)
  · go_wp2_with fail
    go_ret
    exact ⟨rfl, HF1.out⟩
  have HN2 : Hid (n ≤ 200) := by show n ≤ 200; omega
  have HNW := Lib.hid (voku_new (W := W) (K := fun _ => False) HF1.out (fun b e => e.elim))
  go_wp2_with fail
  refine HNW.out.mono ?_
  clear HNW h200
  rintro e w2 ⟨g, gt, rfl, h2, hk2⟩
  obtain ⟨q4, hq4⟩ : ∃ q, q = w2.heap.size := ⟨_, rfl⟩
  obtain ⟨w3, hw3⟩ : ∃ w3, w3 = w2.alloc (.cells (atc (List.replicate 64 0)) 52) := ⟨_, rfl⟩
  have HI0 : Hid (Inv W q4 g gt 0 w3) := by
    refine ⟨[], List.replicate 64 0, ?_, by rw [hw3, hq4]; exact Bk.new _ _ _, ⟨List.length_replicate, fun a ha => by rw [List.eq_of_mem_replicate ha]; exact Nat.le_refl _, (fun x h => by cases h), fun x h => by cases h⟩, by rw [hq4]; exact h2.fr.size⟩
    rw [hw3, hq4]
    exact (h2.made _).sub fun b e => .inr e
  have HQ4 := Lib.hid hq4
  obtain ⟨zc, hzc⟩ : ∃ zc, zc = atc (List.replicate 64 0) := ⟨_, rfl⟩
  have hzv : (Try.prog.info? 52).map (fun i => (i.zero, i.size)) = some (some (.agg zc), 64) := by rw [hzc]; kernel_rfl
  have hbu : Try.prog.built 52 [] = some zc := by rw [hzc]; kernel_rfl
  have hsz : zc.size = 64 := by rw [hzc]; rfl
  have hone : zc.all (·.oneCell') = true := by rw [hzc]; kernel_rfl
  have HW3 : Hid (w2.alloc (.cells zc 52) = w3) := by show _ = _; rw [hw3, hzc]
  clear h2 hk2 hw3 hq4 hzc
  go_upto_region 8 with fail
  apply wp_region_lit
  refine Great.wpList_runTo rfl _ rfl (.agg zc) w2 (by simp [execOp, run_build w2 _ #[] zc hbu]) ?_
  refine Great.wpList_runTo rfl _ rfl (.pointer (some ⟨w2.heap.size, 0, none⟩)) (w2.alloc (.cells zc 52)) (by simp [execOp, Instr.alloc, (zero_of_info hzv).1]; rfl) ?_
  refine wpList_store_row rfl _ _ _ rfl w2.heap.size zc rfl rfl _ zc (heap_alloc_last w2 _) (by rw [(zero_of_info hzv).2, hsz]) rfl hone ?_
  rw [World.setRow_alloc_new, HW3.out, ← HQ4.out]
  clear HW3 HQ4 hzv hbu hsz hone
  try simp only [Act.put, List.setIfInBounds_toArray, List.set_cons_zero, List.set_cons_succ]
  go_wp2_with fail
  go_loopw [5, 22] (fun la i wr => ∃ (k p : Nat), i = .int .i64 (k : Int) ∧ la = .int .u64 (p : Int) ∧ k ≤ n ∧ Hid (Inv W q4 g gt p wr)) (fun _ i _ => (n - intOf i).toNat)
  case atStart => exact ⟨0, 0, rfl, rfl, Nat.zero_le _, HI0.out⟩
  case round => as_aux_lemma =>
    clear HI0
    obtain ⟨k, p, rfl, rfl, hk, HI⟩ := hrel
    by_cases hkn : k < n
    · have hki : (k : Int) < (n : Int) := by omega
      obtain ⟨x, hx⟩ : ∃ x, l[k]? = some x := ⟨_, List.getElem?_eq_getElem (by rw [← HN.out]; exact hkn)⟩
      obtain ⟨xs, at', hv, hb, hat, hlq⟩ := HI.out
      obtain ⟨b, off, hA, d0, d1, d2, d3⟩ := (HR.out.nofr hv.fr).opn hx
      subst hA
      obtain ⟨xpr, xbal, xslot, xval⟩ := x
      dsimp only at d0 d1 d2 d3
      have hwr : IntKind.i64.wrap ((k : Int) + 1) = (k : Int) + 1 := by have := HN2.out; exact IntWalk.i64_in _ (by omega)
      obtain ⟨ob, hob⟩ : ∃ ob, ob = wr.heap.size := ⟨_, rfl⟩
      obtain ⟨w4, hw4⟩ : ∃ w4, w4 = wr.alloc (.cells #[.bool xpr, .int .u64 (xbal : Int), .int .i64 xslot, .string (bstr xval)] 35) := ⟨_, rfl⟩
      have HX4 : Hid (Bk w4 ob 35 #[.bool xpr, .int .u64 (xbal : Int), .int .i64 xslot, .string (bstr xval)]) := by show Bk _ _ _ _; rw [hw4, hob]; exact Bk.new _ _ _
      have HB4 : Hid (Bk w4 q4 52 (atc at')) := by show Bk _ _ _ _; rw [hw4]; exact hb.alloc _
      have H4 : Hid (VoKU W (fun b => b = q4 ∨ b = ob) g gt p xs w4) := by show VoKU _ _ _ _ _ _ _; rw [hw4, hob]; exact hv.made _
      have HAT := Lib.hid hat
      have HLQ := Lib.hid hlq
      have HW4 := Lib.hid hw4
      have HOB := Lib.hid hob
      have x0 : w4.cell? ⟨ob, 0, none⟩ = some (.bool xpr) := HX4.out.cell 0
      have x1 : w4.cell? ⟨ob, 1, none⟩ = some (.int .u64 (xbal : Int)) := HX4.out.cell 1
      have x2 : w4.cell? ⟨ob, 2, none⟩ = some (.int .i64 xslot) := HX4.out.cell 2
      clear hx hv hb hat hlq hw4 hob HI
      go_upto_region 12 with fail
      rw [← HW4.out, ← HOB.out]
      clear HW4 HOB d0 d1 d2 d3
      go_upto_if 28 with (fail)
      go_cut [8] (fun s8 wx => ∃ (ok : Bool) (pp : Nat), s8 = .bool ok ∧ Hid (Inv W q4 g gt pp wx) ∧ Hid (Bk wx ob 35 #[.bool xpr, .int .u64 (xbal : Int), .int .i64 xslot, .string (bstr xval)]) ∧ Hid (Went ok p pp xbal))
      case first => as_aux_lemma =>
        cases xpr with
        | true =>
          have HP := Lib.hid (H4.out.prom xbal 0)
          go_wp2_with fail
          refine HP.out.mono ?_
          clear HP x0 x1 x2
          rintro e w5 ⟨hk5, ⟨hlt, rfl, h5⟩ | ⟨hge, A5, c5, rfl, ho5, h5⟩⟩
          · have HX5 := Lib.hid (HX4.out.kept hk5 (.inr rfl))
            have HI5 : Hid (Inv W q4 g gt p w5) := ⟨xs, at', h5.sub fun b e => .inl e, HB4.out.kept hk5 (.inl rfl), HAT.out, HLQ.out⟩
            clear hk5 h5 hlt HX4 HB4 H4 HAT
            go_wp2_with fail
            go_meet
            exact ⟨false, p, rfl, HI5, HX5, .inr ⟨rfl, rfl⟩⟩
          · have HX5 := Lib.hid (HX4.out.kept hk5 (.inr rfl))
            have HI5 : Hid (Inv W q4 g gt xbal w5) := ⟨xs, at', h5.sub fun b e => .inl e, HB4.out.kept hk5 (.inl rfl), HAT.out.higher hge, HLQ.out⟩
            have HGE := Lib.hid hge
            clear hk5 h5 ho5 hge HX4 HB4 H4 HAT
            go_wp2_with fail
            go_meet
            exact ⟨true, xbal, rfl, HI5, HX5, .inl ⟨rfl, HGE.out, rfl⟩⟩
        | false =>
          have HP := Lib.hid (H4.out.acc ⟨xslot, xbal, (k : Int)⟩)
          go_wp2_with fail
          refine HP.out.mono ?_
          clear HP x0 x1 x2
          rintro e w5 ⟨hk5, rfl, h5⟩
          have HX5 := Lib.hid (HX4.out.kept hk5 (.inr rfl))
          have HB5 := Lib.hid (HB4.out.kept hk5 (.inl rfl))
          have HH5 := Lib.hid h5
          clear hk5 h5 HX4 HB4 H4
          go_wp2_with fail
          go_meet
          have h5 := HH5.out
          cases ht : takesU p ⟨xslot, xbal, (k : Int)⟩ with
          | true =>
            have hge : p ≤ xbal := by
              unfold takesU at ht
              by_cases hlt : xbal < p
              · rw [show (decide ((VaU.mk xslot xbal (k : Int)).bal < p)) = true from decide_eq_true hlt] at ht
                cases ht
              · omega
            rw [ht] at h5
            exact ⟨true, xbal, rfl, ⟨_, at', h5.sub fun b e => .inl e, HB5.out, HAT.out.took ⟨xslot, xbal, (k : Int)⟩ hge, HLQ.out⟩, HX5, .inl ⟨rfl, hge, rfl⟩⟩
          | false =>
            rw [ht] at h5
            exact ⟨false, p, rfl, ⟨xs, at', h5.sub fun b e => .inl e, HB5.out, HAT.out, HLQ.out⟩, HX5, .inr ⟨rfl, rfl⟩⟩
      case rest => as_aux_lemma =>
        obtain ⟨ok, pp, rfl, HI5, HX5, HWT⟩ := hcut
        clear HX4 HB4 H4 HAT x0 x1 x2
        have HSK : Hid (∀ w' : World, Fr NoBlk wc w' → w'.cell? ⟨ob, 1, none⟩ = some (.int .u64 (xbal : Int))) := fun w' hf => (HX5.out.fr hf (fun e => e)).cell 1
        have HPR : Hid (∀ w' : World, Fr NoBlk wc w' → Calls Try.prog 20 #[.pointer (some ⟨g, 0, none⟩)] w' fun e w'' => e = .returned (.int .u64 (pp : Int)) ∧ w' = w'') := fun w' hf => by
          obtain ⟨ys, at2, hv, _⟩ := HI5.out
          exact (hv.nofr hf).promised
        go_upto_region 16 with fail
        clear HX5
        go_cut [75] (fun s75 wx => s75 = .bool false ∧ Hid (Inv W q4 g gt pp wx))
        case first => as_aux_lemma =>
          rcases HWT.out with ⟨rfl, hge, rfl⟩ | ⟨rfl, rfl⟩
          · clear HWT
            have f1 : ¬ (xbal : Int) < (p : Int) := by omega
            have f8 : decide ((xbal : Int) < (p : Int)) = false := by simp; omega
            have f2 : (p : Int) ≤ (xbal : Int) := by omega
            have f6 : (if (p : Int) < (xbal : Int) then (xbal : Int) else (p : Int)) = (xbal : Int) := by split <;> omega
            have f7 : (if p < xbal then (xbal : Int) else (p : Int)) = (xbal : Int) := by split <;> omega
            have f5 : ¬ xbal < p := by omega
            have f9 : decide (xbal < p) = false := by simp; omega
            have f3 : max (p : Int) (xbal : Int) = (xbal : Int) := by omega
            have f4 : p ≤ xbal := hge
            refine wp_region_held_drew (S := fun w' => Fr NoBlk wc w') (by kernel_rfl) (by exact (Fr.refl NoBlk _).drew) (fun hHeld => ?_)
            refine wpAnyH_take (i := 0) (oi := ⟨some 44, _, _, _, _, _⟩) (v := ?_) rfl (by kernel_rfl) (by kernel_rfl) (by kernel_rfl) (fun _ _ _ h => h) (Or.inl ⟨by rfl, ?_⟩) (by assumption) ?_
            rotate_left 1
            · (intro w hSw; (try dsimp only at hSw); have x1 := HSK.out _ hSw; go_simp) <;> (with_reducible rfl)
            try simp only [Act.put, List.setIfInBounds_toArray, List.set_cons_zero, List.set_cons_succ]
            refine wpAnyH_take (i := 1) (oi := ⟨some 45, _, _, _, _, _⟩) (v := ?_) rfl (by kernel_rfl) (by kernel_rfl) (by kernel_rfl) (fun _ _ _ h => h) (Or.inl ⟨by rfl, ?_⟩) (by assumption) ?_
            rotate_left 1
            · (intro w hSw; (try dsimp only at hSw); have x1 := HSK.out _ hSw; go_simp) <;> (with_reducible rfl)
            try simp only [Act.put, List.setIfInBounds_toArray, List.set_cons_zero, List.set_cons_succ]
            refine wpAnyH_take (i := 2) (oi := ⟨some 46, _, _, _, _, _⟩) (v := ?_) rfl (by kernel_rfl) (by kernel_rfl) (by kernel_rfl) (fun _ _ _ h => h) (Or.inl ⟨by rfl, ?_⟩) (by assumption) ?_
            rotate_left 1
            · (intro w hSw; (try dsimp only at hSw); have x1 := HSK.out _ hSw; go_simp) <;> (with_reducible rfl)
            try simp only [Act.put, List.setIfInBounds_toArray, List.set_cons_zero, List.set_cons_succ]
            refine wpAnyH_take (i := 3) (oi := ⟨some 47, _, _, _, _, _⟩) (v := ?_) rfl (by kernel_rfl) (by kernel_rfl) (by kernel_rfl) (fun _ _ _ h => h) (Or.inl ⟨by rfl, ?_⟩) (by assumption) ?_
            rotate_left 1
            · (intro w hSw; (try dsimp only at hSw); have x1 := HSK.out _ hSw; go_simp) <;> (with_reducible rfl)
            try simp only [Act.put, List.setIfInBounds_toArray, List.set_cons_zero, List.set_cons_succ]
            refine wpAnyH_take (i := 4) (oi := ⟨some 48, _, _, _, _, _⟩) (v := ?_) rfl (by kernel_rfl) (by kernel_rfl) (by kernel_rfl) (fun _ _ _ h => h) (Or.inl ⟨by rfl, ?_⟩) (by assumption) ?_
            rotate_left 1
            · (intro w hSw; (try dsimp only at hSw); have x1 := HSK.out _ hSw; go_simp) <;> (with_reducible rfl)
            try simp only [Act.put, List.setIfInBounds_toArray, List.set_cons_zero, List.set_cons_succ]
            refine wpAnyH_take (i := 5) (oi := ⟨some 49, _, _, _, _, _⟩) (v := ?_) rfl (by kernel_rfl) (by kernel_rfl) (by kernel_rfl) (fun _ _ _ h => h) (Or.inl ⟨by rfl, ?_⟩) (by assumption) ?_
            rotate_left 1
            · (intro w hSw; (try dsimp only at hSw); have x1 := HSK.out _ hSw; go_simp) <;> (with_reducible rfl)
            try simp only [Act.put, List.setIfInBounds_toArray, List.set_cons_zero, List.set_cons_succ]
            refine wpAnyH_take (i := 6) (oi := ⟨some 50, _, _, _, _, _⟩) (v := ?_) rfl (by kernel_rfl) (by kernel_rfl) (by kernel_rfl) (fun _ _ _ h => h) (Or.inl ⟨by rfl, ?_⟩) (by assumption) ?_
            rotate_left 1
            · (intro w hSw; (try dsimp only at hSw); have x1 := HSK.out _ hSw; go_simp) <;> (with_reducible rfl)
            try simp only [Act.put, List.setIfInBounds_toArray, List.set_cons_zero, List.set_cons_succ]
            refine wpAnyH_take (i := 7) (oi := ⟨some 51, _, _, _, _, _⟩) (v := ?_) rfl (by kernel_rfl) (by kernel_rfl) (by kernel_rfl) (fun _ _ _ h => h) (Or.inl ⟨by rfl, ?_⟩) (by assumption) ?_
            rotate_left 1
            · (intro w hSw; (try dsimp only at hSw); have x1 := HSK.out _ hSw; go_simp) <;> (with_reducible rfl)
            try simp only [Act.put, List.setIfInBounds_toArray, List.set_cons_zero, List.set_cons_succ]
            refine wpAnyH_take (i := 8) (oi := ⟨some 52, _, _, _, _, _⟩) (v := ?_) rfl (by kernel_rfl) (by kernel_rfl) (by kernel_rfl) (fun _ _ _ h => h) (Or.inl ⟨by rfl, ?_⟩) (by assumption) ?_
            rotate_left 1
            · (intro w hSw; (try dsimp only at hSw); have x1 := HSK.out _ hSw; go_simp) <;> (with_reducible rfl)
            try simp only [Act.put, List.setIfInBounds_toArray, List.set_cons_zero, List.set_cons_succ]
            refine wpAnyH_take (i := 10) (oi := ⟨some 54, _, _, _, _, _⟩) (v := ?_) rfl (by kernel_rfl) (by kernel_rfl) (by kernel_rfl) (fun _ _ _ h => h) (Or.inl ⟨by rfl, ?_⟩) (by assumption) ?_
            rotate_left 1
            · (intro w hSw; (try dsimp only at hSw); have x1 := HSK.out _ hSw; go_simp) <;> (with_reducible rfl)
            try simp only [Act.put, List.setIfInBounds_toArray, List.set_cons_zero, List.set_cons_succ]
            refine wpAnyH_ready (rs := [9]) (by kernel_rfl) (by simp) ?_
            refine AllReadyH.cons (o := ⟨some 53, _, _, _, _, _⟩) rfl (fun K hK => ?_) AllReadyH.nil
            have hSw := hHeld
            go_simp
            go_at_call 20
            refine (HPR.out _ hSw).mono ?_
            rintro e w' ⟨rfl, rfl⟩
            refine hK.out _ _ ?_ (fun hHeld => ?_)
            · assumption
            clear hK K
            try simp only [Act.put, List.setIfInBounds_toArray, List.set_cons_zero, List.set_cons_succ]
            refine wpAnyH_take (i := 11) (oi := ⟨some 55, _, _, _, _, _⟩) (v := ?_) rfl (by kernel_rfl) (by kernel_rfl) (by kernel_rfl) (fun _ _ _ h => h) (Or.inl ⟨by rfl, ?_⟩) (by assumption) ?_
            rotate_left 1
            · (intro w hSw; (try dsimp only at hSw); have x1 := HSK.out _ hSw; go_simp) <;> (with_reducible rfl)
            try simp only [Act.put, List.setIfInBounds_toArray, List.set_cons_zero, List.set_cons_succ]
            refine wpAnyH_take (i := 12) (oi := ⟨some 56, _, _, _, _, _⟩) (v := ?_) rfl (by kernel_rfl) (by kernel_rfl) (by kernel_rfl) (fun _ _ _ h => h) (Or.inl ⟨by rfl, ?_⟩) (by assumption) ?_
            rotate_left 1
            · (intro w hSw; (try dsimp only at hSw); have x1 := HSK.out _ hSw; go_simp) <;> (with_reducible rfl)
            try simp only [Act.put, List.setIfInBounds_toArray, List.set_cons_zero, List.set_cons_succ]
            refine wpAnyH_take (i := 13) (oi := ⟨some 57, _, _, _, _, _⟩) (v := ?_) rfl (by kernel_rfl) (by kernel_rfl) (by kernel_rfl) (fun _ _ _ h => h) (Or.inl ⟨by rfl, ?_⟩) (by assumption) ?_
            rotate_left 1
            · (intro w hSw; (try dsimp only at hSw); have x1 := HSK.out _ hSw; go_simp) <;> (with_reducible rfl)
            try simp only [Act.put, List.setIfInBounds_toArray, List.set_cons_zero, List.set_cons_succ]
            refine wpAnyH_take (i := 14) (oi := ⟨some 58, _, _, _, _, _⟩) (v := ?_) rfl (by kernel_rfl) (by kernel_rfl) (by kernel_rfl) (fun _ _ _ h => h) (Or.inl ⟨by rfl, ?_⟩) (by assumption) ?_
            rotate_left 1
            · (intro w hSw; (try dsimp only at hSw); have x1 := HSK.out _ hSw; go_simp) <;> (with_reducible rfl)
            try simp only [Act.put, List.setIfInBounds_toArray, List.set_cons_zero, List.set_cons_succ]
            refine wpAnyH_take (i := 16) (oi := ⟨some 60, _, _, _, _, _⟩) (v := ?_) rfl (by kernel_rfl) (by kernel_rfl) (by kernel_rfl) (fun _ _ _ h => h) (Or.inl ⟨by rfl, ?_⟩) (by assumption) ?_
            rotate_left 1
            · (intro w hSw; (try dsimp only at hSw); have x1 := HSK.out _ hSw; go_simp) <;> (with_reducible rfl)
            try simp only [Act.put, List.setIfInBounds_toArray, List.set_cons_zero, List.set_cons_succ]
            refine wpAnyH_take (i := 17) (oi := ⟨some 61, _, _, _, _, _⟩) (v := ?_) rfl (by kernel_rfl) (by kernel_rfl) (by kernel_rfl) (fun _ _ _ h => h) (Or.inl ⟨by rfl, ?_⟩) (by assumption) ?_
            rotate_left 1
            · (intro w hSw; (try dsimp only at hSw); have x1 := HSK.out _ hSw; go_simp) <;> (with_reducible rfl)
            try simp only [Act.put, List.setIfInBounds_toArray, List.set_cons_zero, List.set_cons_succ]
            refine wpAnyH_ready (rs := [15]) (by kernel_rfl) (by simp) ?_
            refine AllReadyH.cons (o := ⟨some 59, _, _, _, _, _⟩) rfl (fun K hK => ?_) AllReadyH.nil
            have hSw := hHeld
            go_simp
            go_at_call 20
            refine (HPR.out _ hSw).mono ?_
            rintro e w' ⟨rfl, rfl⟩
            refine hK.out _ _ ?_ (fun hHeld => ?_)
            · assumption
            clear hK K
            try simp only [Act.put, List.setIfInBounds_toArray, List.set_cons_zero, List.set_cons_succ]
            refine wpAnyH_ready (rs := [18]) (by kernel_rfl) (by simp) ?_
            refine AllReadyH.cons (o := ⟨some 62, _, _, _, _, _⟩) rfl (fun K hK => ?_) AllReadyH.nil
            have hSw := hHeld
            go_simp
            go_at_call 20
            refine (HPR.out _ hSw).mono ?_
            rintro e w' ⟨rfl, rfl⟩
            refine hK.out _ _ ?_ (fun hHeld => ?_)
            · assumption
            clear hK K
            try simp only [Act.put, List.setIfInBounds_toArray, List.set_cons_zero, List.set_cons_succ]
            refine wpAnyH_take (i := 19) (oi := ⟨some 63, _, _, _, _, _⟩) (v := ?_) rfl (by kernel_rfl) (by kernel_rfl) (by kernel_rfl) (fun _ _ _ h => h) (Or.inl ⟨by rfl, ?_⟩) (by assumption) ?_
            rotate_left 1
            · (intro w hSw; (try dsimp only at hSw); have x1 := HSK.out _ hSw; go_simp) <;> (with_reducible rfl)
            try simp only [Act.put, List.setIfInBounds_toArray, List.set_cons_zero, List.set_cons_succ]
            refine wpAnyH_take (i := 20) (oi := ⟨some 64, _, _, _, _, _⟩) (v := ?_) rfl (by kernel_rfl) (by kernel_rfl) (by kernel_rfl) (fun _ _ _ h => h) (Or.inl ⟨by rfl, ?_⟩) (by assumption) ?_
            rotate_left 1
            · (intro w hSw; (try dsimp only at hSw); have x1 := HSK.out _ hSw; go_simp) <;> (with_reducible rfl)
            try simp only [Act.put, List.setIfInBounds_toArray, List.set_cons_zero, List.set_cons_succ]
            refine wpAnyH_take (i := 21) (oi := ⟨some 65, _, _, _, _, _⟩) (v := ?_) rfl (by kernel_rfl) (by kernel_rfl) (by kernel_rfl) (fun _ _ _ h => h) (Or.inl ⟨by rfl, ?_⟩) (by assumption) ?_
            rotate_left 1
            · (intro w hSw; (try dsimp only at hSw); have x1 := HSK.out _ hSw; go_simp) <;> (with_reducible rfl)
            try simp only [Act.put, List.setIfInBounds_toArray, List.set_cons_zero, List.set_cons_succ]
            refine wpAnyH_take (i := 22) (oi := ⟨some 66, _, _, _, _, _⟩) (v := ?_) rfl (by kernel_rfl) (by kernel_rfl) (by kernel_rfl) (fun _ _ _ h => h) (Or.inl ⟨by rfl, ?_⟩) (by assumption) ?_
            rotate_left 1
            · (intro w hSw; (try dsimp only at hSw); have x1 := HSK.out _ hSw; go_simp) <;> (with_reducible rfl)
            try simp only [Act.put, List.setIfInBounds_toArray, List.set_cons_zero, List.set_cons_succ]
            refine wpAnyH_take (i := 23) (oi := ⟨some 67, _, _, _, _, _⟩) (v := ?_) rfl (by kernel_rfl) (by kernel_rfl) (by kernel_rfl) (fun _ _ _ h => h) (Or.inl ⟨by rfl, ?_⟩) (by assumption) ?_
            rotate_left 1
            · (intro w hSw; (try dsimp only at hSw); have x1 := HSK.out _ hSw; go_simp) <;> (with_reducible rfl)
            try simp only [Act.put, List.setIfInBounds_toArray, List.set_cons_zero, List.set_cons_succ]
            refine wpAnyH_take (i := 24) (oi := ⟨some 68, _, _, _, _, _⟩) (v := ?_) rfl (by kernel_rfl) (by kernel_rfl) (by kernel_rfl) (fun _ _ _ h => h) (Or.inl ⟨by rfl, ?_⟩) (by assumption) ?_
            rotate_left 1
            · (intro w hSw; (try dsimp only at hSw); have x1 := HSK.out _ hSw; go_simp) <;> (with_reducible rfl)
            try simp only [Act.put, List.setIfInBounds_toArray, List.set_cons_zero, List.set_cons_succ]
            refine wpAnyH_take (i := 25) (oi := ⟨some 69, _, _, _, _, _⟩) (v := ?_) rfl (by kernel_rfl) (by kernel_rfl) (by kernel_rfl) (fun _ _ _ h => h) (Or.inl ⟨by rfl, ?_⟩) (by assumption) ?_
            rotate_left 1
            · (intro w hSw; (try dsimp only at hSw); have x1 := HSK.out _ hSw; go_simp) <;> (with_reducible rfl)
            try simp only [Act.put, List.setIfInBounds_toArray, List.set_cons_zero, List.set_cons_succ]
            refine wpAnyH_take (i := 27) (oi := ⟨some 71, _, _, _, _, _⟩) (v := ?_) rfl (by kernel_rfl) (by kernel_rfl) (by kernel_rfl) (fun _ _ _ h => h) (Or.inl ⟨by rfl, ?_⟩) (by assumption) ?_
            rotate_left 1
            · (intro w hSw; (try dsimp only at hSw); have x1 := HSK.out _ hSw; go_simp) <;> (with_reducible rfl)
            try simp only [Act.put, List.setIfInBounds_toArray, List.set_cons_zero, List.set_cons_succ]
            refine wpAnyH_take (i := 28) (oi := ⟨some 72, _, _, _, _, _⟩) (v := ?_) rfl (by kernel_rfl) (by kernel_rfl) (by kernel_rfl) (fun _ _ _ h => h) (Or.inl ⟨by rfl, ?_⟩) (by assumption) ?_
            rotate_left 1
            · (intro w hSw; (try dsimp only at hSw); have x1 := HSK.out _ hSw; go_simp) <;> (with_reducible rfl)
            try simp only [Act.put, List.setIfInBounds_toArray, List.set_cons_zero, List.set_cons_succ]
            refine wpAnyH_ready (rs := [26]) (by kernel_rfl) (by simp) ?_
            refine AllReadyH.cons (o := ⟨some 70, _, _, _, _, _⟩) rfl (fun K hK => ?_) AllReadyH.nil
            have hSw := hHeld
            go_simp
            go_at_call 20
            refine (HPR.out _ hSw).mono ?_
            rintro e w' ⟨rfl, rfl⟩
            refine hK.out _ _ ?_ (fun hHeld => ?_)
            · assumption
            clear hK K
            try simp only [Act.put, List.setIfInBounds_toArray, List.set_cons_zero, List.set_cons_succ]
            refine wpAnyH_take (i := 29) (oi := ⟨some 73, _, _, _, _, _⟩) (v := ?_) rfl (by kernel_rfl) (by kernel_rfl) (by kernel_rfl) (fun _ _ _ h => h) (Or.inl ⟨by rfl, ?_⟩) (by assumption) ?_
            rotate_left 1
            · (intro w hSw; (try dsimp only at hSw); have x1 := HSK.out _ hSw; go_simp) <;> (with_reducible rfl)
            try simp only [Act.put, List.setIfInBounds_toArray, List.set_cons_zero, List.set_cons_succ]
            refine wpAnyH_take (i := 30) (oi := ⟨some 74, _, _, _, _, _⟩) (v := ?_) rfl (by kernel_rfl) (by kernel_rfl) (by kernel_rfl) (fun _ _ _ h => h) (Or.inl ⟨by rfl, ?_⟩) (by assumption) ?_
            rotate_left 1
            · (intro w hSw; (try dsimp only at hSw); have x1 := HSK.out _ hSw; go_simp) <;> (with_reducible rfl)
            try simp only [Act.put, List.setIfInBounds_toArray, List.set_cons_zero, List.set_cons_succ]
            refine wpAnyH_take (i := 31) (oi := ⟨some 75, _, _, _, _, _⟩) (v := ?_) rfl (by kernel_rfl) (by kernel_rfl) (by kernel_rfl) (fun _ _ _ h => h) (Or.inl ⟨by rfl, ?_⟩) (by assumption) ?_
            rotate_left 1
            · (intro w hSw; (try dsimp only at hSw); have x1 := HSK.out _ hSw; go_simp) <;> (with_reducible rfl)
            try simp only [Act.put, List.setIfInBounds_toArray, List.set_cons_zero, List.set_cons_succ]
            refine wpAnyH_done (by kernel_rfl) ?_ _
            have hI6 : ∀ w' : World, Fr NoBlk wc w' → Inv W q4 g gt xbal w' := fun w' hf => by
              obtain ⟨ys, at2, i1, i2, i3, i4⟩ := HI5.out
              exact ⟨ys, at2, i1.nofr hf, i2.fr hf fun e => e, i3, i4⟩
            have HI6 := Lib.hid (hI6 _ hHeld)
            clear hI6
            clear hHeld HSK HPR
            try go_wp2_with fail
            go_meet
            exact ⟨rfl, HI6⟩
          · clear HWT
            refine wp_region_held_drew (S := fun w' => Fr NoBlk wc w') (by kernel_rfl) (by exact (Fr.refl NoBlk _).drew) (fun hHeld => ?_)
            refine wpAnyH_take (i := 0) (oi := ⟨some 44, _, _, _, _, _⟩) (v := ?_) rfl (by kernel_rfl) (by kernel_rfl) (by kernel_rfl) (fun _ _ _ h => h) (Or.inl ⟨by rfl, ?_⟩) (by assumption) ?_
            rotate_left 1
            · (intro w hSw; (try dsimp only at hSw); have x1 := HSK.out _ hSw; go_simp) <;> (with_reducible rfl)
            try simp only [Act.put, List.setIfInBounds_toArray, List.set_cons_zero, List.set_cons_succ]
            refine wpAnyH_take (i := 1) (oi := ⟨some 45, _, _, _, _, _⟩) (v := ?_) rfl (by kernel_rfl) (by kernel_rfl) (by kernel_rfl) (fun _ _ _ h => h) (Or.inl ⟨by rfl, ?_⟩) (by assumption) ?_
            rotate_left 1
            · (intro w hSw; (try dsimp only at hSw); have x1 := HSK.out _ hSw; go_simp) <;> (with_reducible rfl)
            try simp only [Act.put, List.setIfInBounds_toArray, List.set_cons_zero, List.set_cons_succ]
            refine wpAnyH_take (i := 2) (oi := ⟨some 46, _, _, _, _, _⟩) (v := undef) rfl (by kernel_rfl) (by kernel_rfl) (by kernel_rfl) (fun _ _ _ h => h) (Or.inr ⟨by rfl, rfl⟩) (by assumption) ?_
            try simp only [Act.put, List.setIfInBounds_toArray, List.set_cons_zero, List.set_cons_succ]
            refine wpAnyH_take (i := 3) (oi := ⟨some 47, _, _, _, _, _⟩) (v := undef) rfl (by kernel_rfl) (by kernel_rfl) (by kernel_rfl) (fun _ _ _ h => h) (Or.inr ⟨by rfl, rfl⟩) (by assumption) ?_
            try simp only [Act.put, List.setIfInBounds_toArray, List.set_cons_zero, List.set_cons_succ]
            refine wpAnyH_take (i := 4) (oi := ⟨some 48, _, _, _, _, _⟩) (v := undef) rfl (by kernel_rfl) (by kernel_rfl) (by kernel_rfl) (fun _ _ _ h => h) (Or.inr ⟨by rfl, rfl⟩) (by assumption) ?_
            try simp only [Act.put, List.setIfInBounds_toArray, List.set_cons_zero, List.set_cons_succ]
            refine wpAnyH_take (i := 5) (oi := ⟨some 49, _, _, _, _, _⟩) (v := undef) rfl (by kernel_rfl) (by kernel_rfl) (by kernel_rfl) (fun _ _ _ h => h) (Or.inr ⟨by rfl, rfl⟩) (by assumption) ?_
            try simp only [Act.put, List.setIfInBounds_toArray, List.set_cons_zero, List.set_cons_succ]
            refine wpAnyH_take (i := 6) (oi := ⟨some 50, _, _, _, _, _⟩) (v := ?_) rfl (by kernel_rfl) (by kernel_rfl) (by kernel_rfl) (fun _ _ _ h => h) (Or.inl ⟨by rfl, ?_⟩) (by assumption) ?_
            rotate_left 1
            · (intro w hSw; (try dsimp only at hSw); have x1 := HSK.out _ hSw; go_simp) <;> (with_reducible rfl)
            try simp only [Act.put, List.setIfInBounds_toArray, List.set_cons_zero, List.set_cons_succ]
            refine wpAnyH_take (i := 7) (oi := ⟨some 51, _, _, _, _, _⟩) (v := ?_) rfl (by kernel_rfl) (by kernel_rfl) (by kernel_rfl) (fun _ _ _ h => h) (Or.inl ⟨by rfl, ?_⟩) (by assumption) ?_
            rotate_left 1
            · (intro w hSw; (try dsimp only at hSw); have x1 := HSK.out _ hSw; go_simp) <;> (with_reducible rfl)
            try simp only [Act.put, List.setIfInBounds_toArray, List.set_cons_zero, List.set_cons_succ]
            refine wpAnyH_take (i := 8) (oi := ⟨some 52, _, _, _, _, _⟩) (v := ?_) rfl (by kernel_rfl) (by kernel_rfl) (by kernel_rfl) (fun _ _ _ h => h) (Or.inl ⟨by rfl, ?_⟩) (by assumption) ?_
            rotate_left 1
            · (intro w hSw; (try dsimp only at hSw); have x1 := HSK.out _ hSw; go_simp) <;> (with_reducible rfl)
            try simp only [Act.put, List.setIfInBounds_toArray, List.set_cons_zero, List.set_cons_succ]
            refine wpAnyH_take (i := 10) (oi := ⟨some 54, _, _, _, _, _⟩) (v := ?_) rfl (by kernel_rfl) (by kernel_rfl) (by kernel_rfl) (fun _ _ _ h => h) (Or.inl ⟨by rfl, ?_⟩) (by assumption) ?_
            rotate_left 1
            · (intro w hSw; (try dsimp only at hSw); have x1 := HSK.out _ hSw; go_simp) <;> (with_reducible rfl)
            try simp only [Act.put, List.setIfInBounds_toArray, List.set_cons_zero, List.set_cons_succ]
            refine wpAnyH_ready (rs := [9]) (by kernel_rfl) (by simp) ?_
            refine AllReadyH.cons (o := ⟨some 53, _, _, _, _, _⟩) rfl (fun K hK => ?_) AllReadyH.nil
            have hSw := hHeld
            go_simp
            go_at_call 20
            refine (HPR.out _ hSw).mono ?_
            rintro e w' ⟨rfl, rfl⟩
            refine hK.out _ _ ?_ (fun hHeld => ?_)
            · assumption
            clear hK K
            try simp only [Act.put, List.setIfInBounds_toArray, List.set_cons_zero, List.set_cons_succ]
            refine wpAnyH_take (i := 11) (oi := ⟨some 55, _, _, _, _, _⟩) (v := ?_) rfl (by kernel_rfl) (by kernel_rfl) (by kernel_rfl) (fun _ _ _ h => h) (Or.inl ⟨by rfl, ?_⟩) (by assumption) ?_
            rotate_left 1
            · (intro w hSw; (try dsimp only at hSw); have x1 := HSK.out _ hSw; go_simp) <;> (with_reducible rfl)
            try simp only [Act.put, List.setIfInBounds_toArray, List.set_cons_zero, List.set_cons_succ]
            refine wpAnyH_take (i := 12) (oi := ⟨some 56, _, _, _, _, _⟩) (v := ?_) rfl (by kernel_rfl) (by kernel_rfl) (by kernel_rfl) (fun _ _ _ h => h) (Or.inl ⟨by rfl, ?_⟩) (by assumption) ?_
            rotate_left 1
            · (intro w hSw; (try dsimp only at hSw); have x1 := HSK.out _ hSw; go_simp) <;> (with_reducible rfl)
            try simp only [Act.put, List.setIfInBounds_toArray, List.set_cons_zero, List.set_cons_succ]
            refine wpAnyH_take (i := 13) (oi := ⟨some 57, _, _, _, _, _⟩) (v := ?_) rfl (by kernel_rfl) (by kernel_rfl) (by kernel_rfl) (fun _ _ _ h => h) (Or.inl ⟨by rfl, ?_⟩) (by assumption) ?_
            rotate_left 1
            · (intro w hSw; (try dsimp only at hSw); have x1 := HSK.out _ hSw; go_simp) <;> (with_reducible rfl)
            try simp only [Act.put, List.setIfInBounds_toArray, List.set_cons_zero, List.set_cons_succ]
            refine wpAnyH_take (i := 14) (oi := ⟨some 58, _, _, _, _, _⟩) (v := ?_) rfl (by kernel_rfl) (by kernel_rfl) (by kernel_rfl) (fun _ _ _ h => h) (Or.inl ⟨by rfl, ?_⟩) (by assumption) ?_
            rotate_left 1
            · (intro w hSw; (try dsimp only at hSw); have x1 := HSK.out _ hSw; go_simp) <;> (with_reducible rfl)
            try simp only [Act.put, List.setIfInBounds_toArray, List.set_cons_zero, List.set_cons_succ]
            refine wpAnyH_take (i := 16) (oi := ⟨some 60, _, _, _, _, _⟩) (v := ?_) rfl (by kernel_rfl) (by kernel_rfl) (by kernel_rfl) (fun _ _ _ h => h) (Or.inl ⟨by rfl, ?_⟩) (by assumption) ?_
            rotate_left 1
            · (intro w hSw; (try dsimp only at hSw); have x1 := HSK.out _ hSw; go_simp) <;> (with_reducible rfl)
            try simp only [Act.put, List.setIfInBounds_toArray, List.set_cons_zero, List.set_cons_succ]
            refine wpAnyH_take (i := 17) (oi := ⟨some 61, _, _, _, _, _⟩) (v := ?_) rfl (by kernel_rfl) (by kernel_rfl) (by kernel_rfl) (fun _ _ _ h => h) (Or.inl ⟨by rfl, ?_⟩) (by assumption) ?_
            rotate_left 1
            · (intro w hSw; (try dsimp only at hSw); have x1 := HSK.out _ hSw; go_simp) <;> (with_reducible rfl)
            try simp only [Act.put, List.setIfInBounds_toArray, List.set_cons_zero, List.set_cons_succ]
            refine wpAnyH_ready (rs := [15]) (by kernel_rfl) (by simp) ?_
            refine AllReadyH.cons (o := ⟨some 59, _, _, _, _, _⟩) rfl (fun K hK => ?_) AllReadyH.nil
            have hSw := hHeld
            go_simp
            go_at_call 20
            refine (HPR.out _ hSw).mono ?_
            rintro e w' ⟨rfl, rfl⟩
            refine hK.out _ _ ?_ (fun hHeld => ?_)
            · assumption
            clear hK K
            try simp only [Act.put, List.setIfInBounds_toArray, List.set_cons_zero, List.set_cons_succ]
            refine wpAnyH_ready (rs := [18]) (by kernel_rfl) (by simp) ?_
            refine AllReadyH.cons (o := ⟨some 62, _, _, _, _, _⟩) rfl (fun K hK => ?_) AllReadyH.nil
            have hSw := hHeld
            go_simp
            go_at_call 20
            refine (HPR.out _ hSw).mono ?_
            rintro e w' ⟨rfl, rfl⟩
            refine hK.out _ _ ?_ (fun hHeld => ?_)
            · assumption
            clear hK K
            try simp only [Act.put, List.setIfInBounds_toArray, List.set_cons_zero, List.set_cons_succ]
            refine wpAnyH_take (i := 19) (oi := ⟨some 63, _, _, _, _, _⟩) (v := ?_) rfl (by kernel_rfl) (by kernel_rfl) (by kernel_rfl) (fun _ _ _ h => h) (Or.inl ⟨by rfl, ?_⟩) (by assumption) ?_
            rotate_left 1
            · (intro w hSw; (try dsimp only at hSw); have x1 := HSK.out _ hSw; go_simp) <;> (with_reducible rfl)
            try simp only [Act.put, List.setIfInBounds_toArray, List.set_cons_zero, List.set_cons_succ]
            refine wpAnyH_take (i := 20) (oi := ⟨some 64, _, _, _, _, _⟩) (v := ?_) rfl (by kernel_rfl) (by kernel_rfl) (by kernel_rfl) (fun _ _ _ h => h) (Or.inl ⟨by rfl, ?_⟩) (by assumption) ?_
            rotate_left 1
            · (intro w hSw; (try dsimp only at hSw); have x1 := HSK.out _ hSw; go_simp) <;> (with_reducible rfl)
            try simp only [Act.put, List.setIfInBounds_toArray, List.set_cons_zero, List.set_cons_succ]
            refine wpAnyH_take (i := 21) (oi := ⟨some 65, _, _, _, _, _⟩) (v := ?_) rfl (by kernel_rfl) (by kernel_rfl) (by kernel_rfl) (fun _ _ _ h => h) (Or.inl ⟨by rfl, ?_⟩) (by assumption) ?_
            rotate_left 1
            · (intro w hSw; (try dsimp only at hSw); have x1 := HSK.out _ hSw; go_simp) <;> (with_reducible rfl)
            try simp only [Act.put, List.setIfInBounds_toArray, List.set_cons_zero, List.set_cons_succ]
            refine wpAnyH_take (i := 22) (oi := ⟨some 66, _, _, _, _, _⟩) (v := ?_) rfl (by kernel_rfl) (by kernel_rfl) (by kernel_rfl) (fun _ _ _ h => h) (Or.inl ⟨by rfl, ?_⟩) (by assumption) ?_
            rotate_left 1
            · (intro w hSw; (try dsimp only at hSw); have x1 := HSK.out _ hSw; go_simp) <;> (with_reducible rfl)
            try simp only [Act.put, List.setIfInBounds_toArray, List.set_cons_zero, List.set_cons_succ]
            refine wpAnyH_take (i := 23) (oi := ⟨some 67, _, _, _, _, _⟩) (v := ?_) rfl (by kernel_rfl) (by kernel_rfl) (by kernel_rfl) (fun _ _ _ h => h) (Or.inl ⟨by rfl, ?_⟩) (by assumption) ?_
            rotate_left 1
            · (intro w hSw; (try dsimp only at hSw); have x1 := HSK.out _ hSw; go_simp) <;> (with_reducible rfl)
            try simp only [Act.put, List.setIfInBounds_toArray, List.set_cons_zero, List.set_cons_succ]
            refine wpAnyH_take (i := 24) (oi := ⟨some 68, _, _, _, _, _⟩) (v := ?_) rfl (by kernel_rfl) (by kernel_rfl) (by kernel_rfl) (fun _ _ _ h => h) (Or.inl ⟨by rfl, ?_⟩) (by assumption) ?_
            rotate_left 1
            · (intro w hSw; (try dsimp only at hSw); have x1 := HSK.out _ hSw; go_simp) <;> (with_reducible rfl)
            try simp only [Act.put, List.setIfInBounds_toArray, List.set_cons_zero, List.set_cons_succ]
            refine wpAnyH_take (i := 25) (oi := ⟨some 69, _, _, _, _, _⟩) (v := undef) rfl (by kernel_rfl) (by kernel_rfl) (by kernel_rfl) (fun _ _ _ h => h) (Or.inr ⟨by rfl, rfl⟩) (by assumption) ?_
            try simp only [Act.put, List.setIfInBounds_toArray, List.set_cons_zero, List.set_cons_succ]
            refine wpAnyH_take (i := 26) (oi := ⟨some 70, _, _, _, _, _⟩) (v := undef) rfl (by kernel_rfl) (by kernel_rfl) (by kernel_rfl) (fun _ _ _ h => h) (Or.inr ⟨by rfl, rfl⟩) (by assumption) ?_
            try simp only [Act.put, List.setIfInBounds_toArray, List.set_cons_zero, List.set_cons_succ]
            refine wpAnyH_take (i := 27) (oi := ⟨some 71, _, _, _, _, _⟩) (v := undef) rfl (by kernel_rfl) (by kernel_rfl) (by kernel_rfl) (fun _ _ _ h => h) (Or.inr ⟨by rfl, rfl⟩) (by assumption) ?_
            try simp only [Act.put, List.setIfInBounds_toArray, List.set_cons_zero, List.set_cons_succ]
            refine wpAnyH_take (i := 28) (oi := ⟨some 72, _, _, _, _, _⟩) (v := undef) rfl (by kernel_rfl) (by kernel_rfl) (by kernel_rfl) (fun _ _ _ h => h) (Or.inr ⟨by rfl, rfl⟩) (by assumption) ?_
            try simp only [Act.put, List.setIfInBounds_toArray, List.set_cons_zero, List.set_cons_succ]
            refine wpAnyH_take (i := 29) (oi := ⟨some 73, _, _, _, _, _⟩) (v := undef) rfl (by kernel_rfl) (by kernel_rfl) (by kernel_rfl) (fun _ _ _ h => h) (Or.inr ⟨by rfl, rfl⟩) (by assumption) ?_
            try simp only [Act.put, List.setIfInBounds_toArray, List.set_cons_zero, List.set_cons_succ]
            refine wpAnyH_take (i := 30) (oi := ⟨some 74, _, _, _, _, _⟩) (v := ?_) rfl (by kernel_rfl) (by kernel_rfl) (by kernel_rfl) (fun _ _ _ h => h) (Or.inl ⟨by rfl, ?_⟩) (by assumption) ?_
            rotate_left 1
            · (intro w hSw; (try dsimp only at hSw); have x1 := HSK.out _ hSw; go_simp) <;> (with_reducible rfl)
            try simp only [Act.put, List.setIfInBounds_toArray, List.set_cons_zero, List.set_cons_succ]
            refine wpAnyH_take (i := 31) (oi := ⟨some 75, _, _, _, _, _⟩) (v := ?_) rfl (by kernel_rfl) (by kernel_rfl) (by kernel_rfl) (fun _ _ _ h => h) (Or.inl ⟨by rfl, ?_⟩) (by assumption) ?_
            rotate_left 1
            · (intro w hSw; (try dsimp only at hSw); have x1 := HSK.out _ hSw; go_simp) <;> (with_reducible rfl)
            try simp only [Act.put, List.setIfInBounds_toArray, List.set_cons_zero, List.set_cons_succ]
            refine wpAnyH_done (by kernel_rfl) ?_ _
            have hI6 : ∀ w' : World, Fr NoBlk wc w' → Inv W q4 g gt p w' := fun w' hf => by
              obtain ⟨ys, at2, i1, i2, i3, i4⟩ := HI5.out
              exact ⟨ys, at2, i1.nofr hf, i2.fr hf fun e => e, i3, i4⟩
            have HI6 := Lib.hid (hI6 _ hHeld)
            clear hI6
            clear hHeld HSK HPR
            try go_wp2_with fail
            go_meet
            exact ⟨rfl, HI6⟩
        case rest => as_aux_lemma =>
          obtain ⟨rfl, HI6⟩ := hcut
          clear HI5 HSK HPR HWT
          obtain ⟨w6, hw6⟩ : ∃ w6, w6 = wc := ⟨_, rfl⟩
          rw [← hw6] at HI6 ⊢
          clear hw6
          have HPW : Hid (Calls Try.prog 20 #[.pointer (some ⟨g, 0, none⟩)] w6 fun e w' => e = .returned (.int .u64 (pp : Int)) ∧ w6 = w') := by
            obtain ⟨ys, at2, hv, _⟩ := HI6.out
            exact hv.promised
          go_wp2_with fail
          refine HPW.out.mono ?_
          clear HPW
          rintro e w7 ⟨rfl, rfl⟩
          obtain ⟨ys, hys⟩ : ∃ ys, ∃ at2, VoKU W (fun b => b = q4) g gt pp ys w6 ∧ Bk w6 q4 52 (atc at2) ∧ Ats pp ys at2 ∧ W.heap.size ≤ q4 := HI6.out
          have HYS := Lib.hid hys
          have HVT : Hid (Calls Try.prog 21 #[.pointer (some ⟨g, 0, none⟩)] w6 fun e w' => ∃ A c, e = .returned (.slice A ys.length c) ∧ InvI W q4 g gt pp ys A w') := by
            obtain ⟨at2, i1, i2, i3, i4⟩ := HYS.out
            refine i1.votes.mono ?_
            rintro e w' ⟨A, c, rfl, k1, k2⟩
            refine ⟨A, c, rfl, at2, i1.nofr k2, i2.fr k2 fun e => e, i3, i4, (own_cells k1).1, fun b hb e => ?_⟩
            have := own_new k1 b hb
            have := i2.lt
            omega
          clear hys HI6
          go_wp2_with fail
          refine HVT.out.mono ?_
          clear HVT HYS
          rintro e w8 ⟨A8, c8, rfl, h8⟩
          have HI8 := Lib.hid h8
          obtain ⟨m, hm⟩ : ∃ m, m = ys.length := ⟨_, rfl⟩
          have HM := Lib.hid hm
          rw [← hm]
          clear h8 hm
          go_wp2_with fail
          go_loopw [81] (fun i wr => ∃ (j : Nat), i = .int .i64 (j : Int) ∧ j ≤ m ∧ Hid (InvI W q4 g gt pp ys A8 wr)) (fun i _ => (m - intOf i).toNat)
          case atStart => exact ⟨0, rfl, Nat.zero_le _, HI8.out⟩
          case round => as_aux_lemma =>
            clear HI8
            obtain ⟨j, rfl, hj, HJ⟩ := hrel
            by_cases hjm : j < m
            · have hji : (j : Int) < (m : Int) := by omega
              obtain ⟨y, hy⟩ : ∃ y, ys[j]? = some y := ⟨_, List.getElem?_eq_getElem (by rw [← HM.out]; exact hjm)⟩
              obtain ⟨at2, i1, i2, i3, i4, i5, i6⟩ := HJ.out
              have hym := List.mem_of_getElem? hy
              have hyo := i1.ok y hym
              have hlen := i1.len
              obtain ⟨b, off, hA, d0, d1, d2⟩ := Rd.vote i5 hy
              subst hA
              obtain ⟨s, hs⟩ : ∃ s : Nat, s = y.1.toNat := ⟨_, rfl⟩
              have hs64 : s < 64 := by omega
              obtain ⟨a, ha⟩ : ∃ a, at2[s]? = some a := ⟨_, List.getElem?_eq_getElem (by rw [i3.len]; exact hs64)⟩
              have hle : a ≤ y.2.bal := i3.up y hym a (hs ▸ ha)
              have htop := i3.top y hym
              have hsl : y.2.slot = (s : Int) := by omega
              obtain ⟨ybal, hyb⟩ : ∃ ybal, ybal = y.2.bal := ⟨_, rfl⟩
              obtain ⟨yval, hyv⟩ : ∃ yval, yval = y.2.val := ⟨_, rfl⟩
              rw [hsl] at d0
              rw [← hyb] at d1 hle htop
              rw [← hyv] at d2
              have hwr2 : IntKind.i64.wrap ((j : Int) + 1) = (j : Int) + 1 := by have := HM.out; exact IntWalk.i64_in _ (by omega)
              obtain ⟨w9, hw9⟩ : ∃ w9, w9 = wr.alloc (.cells #[.int .i64 (s : Int), .int .u64 (ybal : Int), .int .i64 yval] 58) := ⟨_, rfl⟩
              obtain ⟨oc, hoc⟩ : ∃ oc, oc = wr.heap.size := ⟨_, rfl⟩
              have HX9 : Hid (Bk w9 oc 58 #[.int .i64 (s : Int), .int .u64 (ybal : Int), .int .i64 yval]) := by show Bk _ _ _ _; rw [hw9, hoc]; exact Bk.new _ _ _
              have HF9 : Hid (Fr NoBlk wr w9) := by show Fr _ _ _; rw [hw9]; exact (Fr.refl _ _).alloc _
              have HJ9 : Hid (VoKU W (fun b => b = q4) g gt pp ys w9 ∧ Bk w9 q4 52 (atc at2) ∧ Ats pp ys at2 ∧ W.heap.size ≤ q4 ∧ Rd w9 (some ⟨b, off, none⟩) (valsU ys) ∧ ∀ b', ablk (some ⟨b, off, none⟩) b' → b' ≠ q4) := ⟨i1.nofr HF9.out, i2.fr HF9.out fun e => e, i3, i4, i5.nofr HF9.out, i6⟩
              have HSE : Hid (Ats pp ys (at2.set s ybal)) := by show Ats _ _ _; rw [hs, hyb]; exact i3.seen i1.up i1.ok hym
              have HA2 : Hid (at2[s]? = some a) := ha
              have HS64 := Lib.hid hs64
              have HW9 := Lib.hid hw9
              have HOC := Lib.hid hoc
              clear hy i1 i2 i3 i4 i5 i6 hym hyo hlen hs ha hsl hyb hyv hw9 hoc HJ
              go_upto_region 22 with fail
              rw [← HW9.out, ← HOC.out]
              clear HW9 HOC d0 d1 d2
              have y0 : w9.cell? ⟨oc, 0, none⟩ = some (.int .i64 (s : Int)) := HX9.out.cell 0
              have y1 : w9.cell? ⟨oc, 1, none⟩ = some (.int .u64 (ybal : Int)) := HX9.out.cell 1
              have y4 : w9.cell? ⟨q4, s, none⟩ = some (.int .u64 (a : Int)) := by rw [HJ9.out.2.1.cell]; exact atc_get HA2.out
              have g1 : ¬ (s : Int) < 0 := by omega
              have g2 : ¬ (63 : Int) < (s : Int) := by omega
              have g3 : ¬ (ybal : Int) < (a : Int) := by omega
              have g4 : ¬ (pp : Int) < (ybal : Int) := by omega
              have g5 : (s : Int) < 64 := by omega
              have g6 : s < 64 := by omega
              clear hle htop
              go_quiet (fail)
              obtain ⟨wa, hwa⟩ : ∃ wa, wa = w9.drewN nq := ⟨_, rfl⟩
              have hfa : Fr NoBlk w9 wa := by rw [hwa]; exact (Fr.refl _ _).drewN _
              have HXA : Hid (Bk wa oc 58 #[.int .i64 (s : Int), .int .u64 (ybal : Int), .int .i64 yval]) := HX9.out.fr hfa fun e => e
              have HJA : Hid (VoKU W (fun b => b = q4) g gt pp ys wa ∧ Bk wa q4 52 (atc at2) ∧ Ats pp ys at2 ∧ W.heap.size ≤ q4 ∧ Rd wa (some ⟨b, off, none⟩) (valsU ys) ∧ ∀ b', ablk (some ⟨b, off, none⟩) b' → b' ≠ q4) := ⟨HJ9.out.1.nofr hfa, HJ9.out.2.1.fr hfa fun e => e, HJ9.out.2.2.1, HJ9.out.2.2.2.1, HJ9.out.2.2.2.2.1.nofr hfa, HJ9.out.2.2.2.2.2⟩
              rw [← hwa]
              clear hwa hfa y0 y1 y4 HX9 HJ9 HF9
              have y0 : wa.cell? ⟨oc, 0, none⟩ = some (.int .i64 (s : Int)) := HXA.out.cell 0
              have y1 : wa.cell? ⟨oc, 1, none⟩ = some (.int .u64 (ybal : Int)) := HXA.out.cell 1
              have y4 : wa.cell? ⟨q4, s, none⟩ = some (.int .u64 (a : Int)) := by rw [HJA.out.2.1.cell]; exact atc_get HA2.out
              have yf : wa.frozen? ⟨q4, s, none⟩ = false := HJA.out.2.1.free _
              obtain ⟨wb, hwb⟩ : ∃ wb, wb = wa.setCell ⟨q4, s, none⟩ (.int .u64 (ybal : Int)) := ⟨_, rfl⟩
              have HJB : Hid (InvI W q4 g gt pp ys (some ⟨b, off, none⟩) wb) := by
                obtain ⟨j1, j2, j3, j4, j5, j6⟩ := HJA.out
                have hfb : Fr (fun b => b = q4) wa wb := by rw [hwb]; exact (Fr.refl (fun b => b = q4) wa).setCell (p := ⟨q4, s, none⟩) (fun _ => rfl) _
                refine ⟨at2.set s ybal, j1.put rfl j4 hfb, ?_, HSE.out, j4, j5.fr hfb j6, j6⟩
                rw [hwb, ← atc_set]
                exact j2.put s _
              have HWB := Lib.hid hwb
              clear hwb HJA HSE HA2
              go_wp2_with fail
              rw [← HWB.out]
              go_roundw
              case rel => exact ⟨j + 1, by push_cast; rfl, by omega, HJB.out⟩
              case measure => simp [intOf]; omega
            · have hji : ¬ (j : Int) < (m : Int) := by omega
              have HIE : Hid (Inv W q4 g gt pp wr) := by obtain ⟨at2, i1, i2, i3, i4, _⟩ := HJ.out; exact ⟨ys, at2, i1, i2, i3, i4⟩
              clear HJ
              go_wp2_with fail
              go_roundw
              case rel => exact ⟨k + 1, pp, by push_cast; rfl, rfl, by omega, HIE.out⟩
              case measure => simp [intOf]; omega
    · have hki : ¬ (k : Int) < (n : Int) := by omega
      have HFE : Hid (Fr NoBlk W wr) := by obtain ⟨xs, at', hv, _⟩ := HI.out; exact hv.fr
      go_wp2_with fail
      go_ret
      exact ⟨rfl, HFE.out⟩

theorem paramsOk : ∀ t ∈ Try.f4.params.toList, Try.prog.readableRec t = true ∧ t < Try.prog.types.size := fun t ht => by
  have h := List.all_eq_true.1 (show (Try.f4.params.toList.all fun t => Try.prog.readableRec t && decide (t < Try.prog.types.size)) = true by kernel_rfl) t ht
  simpa using h

set_option maxRecDepth 100000 in
theorem lifted (os : Os) (started : os.Started) (H : Type) (enc : TypeId × Value → H) :
    ReturnsInHanded {} Try.checked os 4 .any (Rows.acceptRisesSpec.pre6 enc Try.prog Try.f4 Rows.acceptRisesRow.domain false) (Rows.acceptRisesSpec.post enc Try.prog Try.f4 false true false false) := by
  refine returnsInHanded_of_change (C := Try.checked) own started (by kernel_rfl) Try.func4
    (ChangeSpec.witness6 (enc := enc) (C := Try.checked) false ⟨#[], #[.slice none 0 0], []⟩ 8 (by kernel_rfl) (by kernel_rfl) (by kernel_rfl) (by kernel_rfl)) ?_
  intro W base args ds gs before hval0 hW _ _
  have hval : ∀ (j : Nat) t v, Try.f4.params[j]? = some t → args[j]? = some v → Value.okWide Try.prog W .any base t v := hval0
  have hW' := hW
  obtain ⟨p, q, hA0, hV, rfl, _, _⟩ := hW
  have hA : DataW.TrodAll enc Try.prog W 0 (fun _ => true) true Try.f4.params.toList args.toList ds p := hA0
  rw [Try.params4] at hA hval
  obtain ⟨v0, vs0, d0, ds0, p0, q0, hargs, rfl, rfl, h0, r0⟩ := trodAll_cons hA
  obtain ⟨rfl, rfl, rfl⟩ := trodAll_nil r0
  obtain rfl : args = #[v0] := by cases args; simp_all
  obtain ⟨rfl, rfl⟩ := trodVars_none hV
  obtain ⟨A, c, l, rfl, hr, hx, hn, hm⟩ := open_opns (hval 0 _ v0 rfl rfl) h0
  have walk := walk W A c l hr hx (Nat.le_trans hn hm)
  clear hA0 hval0
  refine walk.mono fun e W' ⟨he, hf⟩ => ?_
  subst he
  exact ⟨_, rfl, law_post laidOut paramsOk rfl rfl Try.underlying4 hW' rfl rfl rfl hf⟩

theorem said : Rows.AcceptRisesSaid :=
  OpenClaim.holds_of_wide 4 Try.f4 rfl rfl rfl rfl rfl rfl rfl ⟨rfl, rfl, rfl, rfl, rfl⟩ rfl rfl rfl rfl rfl (by kernel_rfl) Try.func4 (by kernel_rfl)
    (of_decide_eq_true (by kernel_rfl)) (by unfold Func.isWrapper; first | (rw [if_pos (by decide +kernel)]; kernel_rfl) | (rw [if_neg (by decide +kernel)]; exact ⟨rfl, rfl⟩))
    (fun os started H enc _ => lifted os started H enc)
end Go.Proofs.Yteeeokofampdeaa.acceptRises
