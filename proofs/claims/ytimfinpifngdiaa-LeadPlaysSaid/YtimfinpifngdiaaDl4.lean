/- The document's leader: New, Offer, Taken. Conditions: fewer votes than a length can be. -/
import Derived.Test.YtimfinpifngdiaaDl3
namespace Go.Proofs.Ytimfinpifngdiaa
open Go.RowKit Go.Maps

def rnew (v f : Int) : Rdr := ⟨v.toNat, f.toNat, fun _ => false, [], ⟨#[]⟩, false, fun _ => false⟩
def RNewPost (w : World) (v f : Int) (e : Ending) (w' : World) : Prop :=
  Fr NoBlk w w' ∧ ((1 ≤ v ∧ v ≤ 9 ∧ 0 ≤ f ∧ f ≤ 64 ∧ ∃ g, e = .returned (.pointer (some ⟨g, 0, none⟩)) ∧ RdL w' w.heap.size g none 0 (rnew v f)) ∨ (¬ (1 ≤ v ∧ v ≤ 9 ∧ 0 ≤ f ∧ f ≤ 64) ∧ e = .returned (.pointer none)))
set_option maxRecDepth 100000 in
set_option maxHeartbeats 1000000 in
theorem rnew_any (w : World) (v f : Int) : Calls Try.prog 11 #[.int .i64 v, .int .i64 f] w fun e w' => RNewPost w v f e w' := by
  by_cases h0 : v < 1
  · go_enter Try.func11, Try.ntmps11
    go_wp2_with fail
    go_ret
    exact ⟨Fr.refl _ _, .inr ⟨by omega, rfl⟩⟩
  by_cases h1 : 9 < v
  · go_enter Try.func11, Try.ntmps11
    go_wp2_with fail
    go_ret
    exact ⟨Fr.refl _ _, .inr ⟨by omega, rfl⟩⟩
  by_cases h2 : f < 0
  · go_enter Try.func11, Try.ntmps11
    go_wp2_with fail
    go_ret
    exact ⟨Fr.refl _ _, .inr ⟨by omega, rfl⟩⟩
  by_cases h3 : 64 < f
  · go_enter Try.func11, Try.ntmps11
    go_wp2_with fail
    go_ret
    exact ⟨Fr.refl _ _, .inr ⟨by omega, rfl⟩⟩
  have HB : Hid (1 ≤ v ∧ v ≤ 9 ∧ 0 ≤ f ∧ f ≤ 64) := ⟨by omega, by omega, by omega, by omega⟩
  obtain ⟨w1, hw1⟩ : ∃ w1, w1 = w.alloc (.cells (rdc (rnew v f) none 0 0) 48) := ⟨_, rfl⟩
  have ev : ((v.toNat : Nat) : Int) = v := by omega
  have ef : ((f.toNat : Nat) : Int) = f := by omega
  have HK : Hid (RdL w1 w.heap.size w.heap.size none 0 (rnew v f)) := by
    refine ⟨?_, World.ownsRow_nil _ _ _ _, Nat.le_refl _, ⟨by show 1 ≤ v.toNat; omega, by show v.toNat ≤ 9; omega⟩, by show f.toNat ≤ 64; omega, fun _ => rfl⟩
    rw [hw1]
    exact Bk.new _ _ _
  have HF : Hid (Fr NoBlk w w1) := by show Fr _ _ _; rw [hw1]; exact (Fr.refl _ _).alloc _
  unfold rdc rnew at hw1
  dsimp only at hw1
  rw [ev, ef] at hw1
  clear ev ef
  go_enter Try.func11, Try.ntmps11
  go_wp2_with fail
  rw [← hw1]
  go_ret
  exact ⟨HF.out, .inl ⟨HB.out.1, HB.out.2.1, HB.out.2.2.1, HB.out.2.2.2, _, rfl, HK.out⟩⟩

def roffB (R : Rdr) : Bool := (rval R).isNone && rleads R && decide (R.slot ≤ 63)
def roff (R : Rdr) (v : ByteArray) : Rdr := if roffB R then { R with off := v, has := true } else R
set_option maxRecDepth 100000 in
set_option maxHeartbeats 1000000 in
theorem roff_any (w : World) (B g c : Nat) (A : Option Addr) (R : Rdr) (h : RdL w B g A c R) (hn : R.told.length ≤ 100000) (v : ByteArray) :
    Calls Try.prog 16 #[.pointer (some ⟨g, 0, none⟩), .string v] w fun e w' => e = .returned (.bool (roffB R)) ∧ RdL w' B g A c (roff R v) ∧ Fr (fun j => j = g) w w' := by
  have HH := Lib.hid h
  have HV := Lib.hid (rval_any w B g c A R h hn)
  have HX : Hid (roffB R = ((rval R).isNone && rleads R && decide ((R.slot : Int) ≤ 63))) := by
    show _ = _
    unfold roffB
    congr 1
    exact decide_eq_decide.2 (by omega)
  have HX0 : Hid (roffB R = false → roff R v = R) := fun h => by unfold roff; rw [if_neg (by rw [h]; decide)]
  have HX1 : Hid (roffB R = true → roff R v = { R with off := v, has := true }) := fun h => by unfold roff; rw [if_pos h]
  have HLD0 := Lib.hid fun W (hh : RdL W B g A c R) => hh.leads
  clear h hn
  obtain ⟨o, ho⟩ : ∃ o, o = rval R := ⟨_, rfl⟩
  obtain ⟨ob, hob⟩ : ∃ ob, ob = roffB R := ⟨_, rfl⟩
  obtain ⟨ld, hld⟩ : ∃ ld, ld = rleads R := ⟨_, rfl⟩
  rw [← ho] at HX HV
  rw [← hob] at HX HX0 HX1 ⊢
  rw [← hld] at HX HLD0
  clear ho hob hld
  unfold tupS evS at HV
  go_enter Try.func16, Try.ntmps16
  cases o with
  | some u =>
    simp only [Option.map_some, Option.getD_some, Option.isSome_some] at HV
    obtain rfl : ob = false := by rw [HX.out]; rfl
    have HZ := Lib.hid (HX0.out rfl)
    clear HX HX0 HX1
    go_wp2_with fail
    refine HV.out.mono ?_
    clear HV
    rintro e w2 ⟨rfl, hf2⟩
    have HF2 := Lib.hid hf2
    have H2 := Lib.hid (HH.out.nofr hf2)
    clear hf2 HH
    go_wp2_with fail
    go_ret
    exact ⟨rfl, by rw [HZ.out]; exact H2.out, HF2.out.mono fun _ _ h => h.elim⟩
  | none =>
    simp only [Option.map_none, Option.getD_none, Option.isSome_none] at HV
    go_wp2_with fail
    refine HV.out.mono ?_
    clear HV
    rintro e w2 ⟨rfl, hf2⟩
    have HF2 := Lib.hid hf2
    have H2 := Lib.hid (HH.out.nofr hf2)
    clear hf2 HH
    go_wp2_with fail
    refine (HLD0.out _ H2.out).mono ?_
    clear HLD0
    rintro e w3 ⟨rfl, hf3⟩
    have HF3 : Hid (Fr (fun j => j = g) w w3) := (HF2.out.trans hf3).mono fun _ _ h => h.elim
    have H3 := Lib.hid (H2.out.nofr hf3)
    clear hf3 H2
    cases ld with
    | false =>
      obtain rfl : ob = false := by rw [HX.out]; rfl
      have HZ := Lib.hid (HX0.out rfl)
      clear HX HX0 HX1
      go_wp2_with fail
      go_ret
      exact ⟨rfl, by rw [HZ.out]; exact H3.out, HF3.out⟩
    | true =>
      have c1 : w3.cell? ⟨g, 1, none⟩ = some (.int .i64 (R.slot : Int)) := H3.out.bk.cell 1
      by_cases h63 : (63 : Int) < (R.slot : Int)
      · obtain rfl : ob = false := by rw [HX.out, decide_eq_false (by omega)]; rfl
        have HZ := Lib.hid (HX0.out rfl)
        clear HX HX0 HX1
        go_wp2_with fail
        go_ret
        exact ⟨rfl, by rw [HZ.out]; exact H3.out, HF3.out⟩
      · obtain rfl : ob = true := by rw [HX.out, decide_eq_true (by omega)]; rfl
        have HZ := Lib.hid (HX1.out rfl)
        clear HX HX0 HX1
        have c12 : w3.cell? ⟨g, 12, none⟩ = some (.string R.off) := H3.out.bk.cell 12
        have f12 := H3.out.bk.free 12
        have c13 : w3.cell? ⟨g, 13, none⟩ = some (.bool R.has) := H3.out.bk.cell 13
        have f13 := H3.out.bk.free 13
        have HW : Hid (RdL ((w3.setCell ⟨g, 12, none⟩ (.string v)).setCell ⟨g, 13, none⟩ (.bool true)) B g A c { R with off := v, has := true } ∧ Fr (fun j => j = g) w ((w3.setCell ⟨g, 12, none⟩ (.string v)).setCell ⟨g, 13, none⟩ (.bool true))) := by
          have hf : Fr (fun j => j = g) w3 ((w3.setCell ⟨g, 12, none⟩ (.string v)).setCell ⟨g, 13, none⟩ (.bool true)) := ((Fr.refl (fun j => j = g) _).setCell (p := ⟨g, 12, none⟩) (fun _ => rfl) _).setCell (p := ⟨g, 13, none⟩) (fun _ => rfl) _
          refine ⟨⟨(H3.out.bk.put 12 (.string v)).put 13 (.bool true), own_fr H3.out.own hf (fun k hk e => own_apart H3.out.own H3.out.bk (by decide) (e ▸ hk)), H3.out.b0, H3.out.vo, H3.out.sl, fun h => by cases h⟩, HF3.out.trans hf⟩
        clear H3
        go_wp2_with fail
        go_ret
        exact ⟨rfl, by rw [HZ.out]; exact HW.out.1, HW.out.2⟩

/-- another state in the same block. -/
theorem RdL.turn {w w' : World} {B g c : Nat} {A : Option Addr} {R : Rdr} (h : RdL w B g A c R) {R2 : Rdr} (hf : Fr (fun j => j = g) w w') {cs : Array Value} (hb : Bk w' g 48 cs) (he : cs = rdc R2 A R.told.length c) (h1 : R2.told = R.told) (h2 : R2.voters = R.voters) (h3 : R2.slot ≤ 64) (h4 : R2.has = false → R2.off = ⟨#[]⟩) : RdL w' B g A c R2 := by
  subst he
  exact ⟨by rw [h1]; exact hb, by rw [h1]; exact own_fr h.own hf (fun k hk e => own_apart h.own h.bk (by decide) (e ▸ hk)), h.b0, h2 ▸ h.vo, h3, h4⟩
theorem rdc_next (R : Rdr) (p : Int → Bool) (A : Option Addr) (n c : Nat) : ((((((((((((rdc { R with tk := p } A n c).setIfInBounds 1 (.int .i64 ((R.slot : Int) + 1))).setIfInBounds 12 (Value.string { data := #[] })).setIfInBounds 13 (.bool false)).setIfInBounds 14 (.bool false)).setIfInBounds 15 (.bool false)).setIfInBounds 16 (.bool false)).setIfInBounds 17 (.bool false)).setIfInBounds 18 (.bool false)).setIfInBounds 19 (.bool false)).setIfInBounds 20 (.bool false)).setIfInBounds 21 (.bool false)).setIfInBounds 22 (.bool false)
    = rdc { R with slot := R.slot + 1, off := ⟨#[]⟩, has := false, tk := fun _ => false } A n c := by
  unfold rdc
  simp only [List.setIfInBounds_toArray, List.set_cons_zero, List.set_cons_succ]
  rfl
/-- behind a voter's word that it has taken a value: the leader, and the value that is chosen. -/
def rtaken (R : Rdr) (x s : Int) : Rdr × Option ByteArray := match rval R with
  | none => (R, none)
  | some v => if s ≠ (R.slot : Int) ∨ ¬ (0 ≤ x ∧ x < (R.voters : Int)) then (R, none)
    else if R.voters < 2 * cnt (fun y => decide (y = x) || R.tk y) then ({ R with slot := R.slot + 1, off := ⟨#[]⟩, has := false, tk := fun _ => false }, some v)
    else ({ R with tk := fun y => decide (y = x) || R.tk y }, none)
theorem rdc_getT (R : Rdr) (A : Option Addr) (n c : Nat) : ∀ k : Nat, k < 9 → (rdc R A n c)[14 + k]? = some (.bool (R.tk (k : Int)))
  | 0, _ => rfl | 1, _ => rfl | 2, _ => rfl | 3, _ => rfl | 4, _ => rfl | 5, _ => rfl | 6, _ => rfl | 7, _ => rfl | 8, _ => rfl
set_option maxRecDepth 100000 in
set_option maxHeartbeats 2000000 in
theorem rtaken_any (w : World) (B g c : Nat) (A : Option Addr) (R : Rdr) (h : RdL w B g A c R) (hn : R.told.length ≤ 100000) (x s : Int) :
    Calls Try.prog 18 #[.pointer (some ⟨g, 0, none⟩), .int .i64 x, .int .i64 s] w fun e w' => e = .returned (tupS (rtaken R x s).2) ∧ RdL w' B g A c (rtaken R x s).1 ∧ Fr (fun j => j = g) w w' := by
  have HH := Lib.hid h
  have HV := Lib.hid (rval_any w B g c A R h hn)
  have HX0 : Hid (rval R = none → rtaken R x s = (R, none)) := fun h => by unfold rtaken; rw [h]
  have HX1 : Hid (s ≠ (R.slot : Int) ∨ ¬ (0 ≤ x ∧ x < (R.voters : Int)) → rtaken R x s = (R, none)) := fun h => by
    unfold rtaken
    split
    · rfl
    · rw [if_pos h]
  have HX2 : Hid (∀ v, rval R = some v → ¬ (s ≠ (R.slot : Int) ∨ ¬ (0 ≤ x ∧ x < (R.voters : Int))) → rtaken R x s = if R.voters < 2 * cnt (fun y => decide (y = x) || R.tk y) then ({ R with slot := R.slot + 1, off := ⟨#[]⟩, has := false, tk := fun _ => false }, some v)
    else ({ R with tk := fun y => decide (y = x) || R.tk y }, none)) := fun v hv h => by
    unfold rtaken
    rw [hv]
    exact if_neg h
  have HS63 : Hid (∀ v, rval R = some v → R.slot ≤ 63) := fun v hv => by
    unfold rval at hv
    split at hv
    · rename_i hc; exact hc.2
    · cases hv
  clear h hn
  obtain ⟨T, hT⟩ : ∃ T, T = rtaken R x s := ⟨_, rfl⟩
  rw [← hT] at HX0 HX1 HX2 ⊢
  clear hT
  obtain ⟨o, ho⟩ : ∃ o, o = rval R := ⟨_, rfl⟩
  rw [← ho] at HX0 HX2 HV HS63
  clear ho
  unfold tupS evS at HV
  go_enter Try.func18, Try.ntmps18
  cases o with
  | none =>
    simp only [Option.map_none, Option.getD_none, Option.isSome_none] at HV
    have HZ : Hid (T = (R, none)) := HX0.out rfl
    clear HX0 HX1 HX2 HS63
    go_wp2_with fail
    refine HV.out.mono ?_
    clear HV
    rintro e w2 ⟨rfl, hf2⟩
    have HF2 : Hid (Fr (fun j => j = g) w w2) := hf2.mono fun _ _ h => h.elim
    have H2 := Lib.hid (HH.out.nofr hf2)
    clear hf2 HH
    go_wp2_with fail
    go_ret2
    exact ⟨by rw [HZ.out]; rfl, by rw [HZ.out]; exact H2.out, HF2.out⟩
  | some v =>
    simp only [Option.map_some, Option.getD_some, Option.isSome_some] at HV
    have hs63 := HS63.out v rfl
    replace HX2 := Lib.hid (HX2.out v rfl)
    clear HX0 HS63
    go_wp2_with fail
    refine HV.out.mono ?_
    clear HV
    rintro e w2 ⟨rfl, hf2⟩
    have HF2 : Hid (Fr (fun j => j = g) w w2) := hf2.mono fun _ _ h => h.elim
    have H2 := Lib.hid (HH.out.nofr hf2)
    clear hf2 HH
    have c1 : w2.cell? ⟨g, 1, none⟩ = some (.int .i64 (R.slot : Int)) := H2.out.bk.cell 1
    have c0 : w2.cell? ⟨g, 0, none⟩ = some (.int .i64 (R.voters : Int)) := H2.out.bk.cell 0
    obtain ⟨sl, hsl⟩ : ∃ sl : Int, sl = (R.slot : Int) := ⟨_, rfl⟩
    rw [← hsl] at c1
    have HSLE := Lib.hid hsl
    clear hsl
    by_cases hs : s = sl
    rotate_left
    · have HZ : Hid (T = (R, none)) := HX1.out (.inl (by rw [← HSLE.out]; exact hs))
      have hs2 : (s == sl) = false := beq_eq_false_iff_ne.2 hs
      have hs3 : (s != sl) = true := by rw [bne, hs2]; rfl
      have hs4 : decide (s = sl) = false := decide_eq_false hs
      clear HX1 HX2 hs
      go_wp2_with fail
      go_ret2
      exact ⟨by rw [HZ.out]; rfl, by rw [HZ.out]; exact H2.out, HF2.out⟩
    subst hs
    by_cases h0 : x < 0
    · have HZ : Hid (T = (R, none)) := HX1.out (.inr (by omega))
      clear HX1 HX2
      go_wp2_with fail
      go_ret2
      exact ⟨by rw [HZ.out]; rfl, by rw [HZ.out]; exact H2.out, HF2.out⟩
    by_cases h1 : (R.voters : Int) ≤ x
    · have HZ : Hid (T = (R, none)) := HX1.out (.inr (by omega))
      clear HX1 HX2
      go_wp2_with fail
      go_ret2
      exact ⟨by rw [HZ.out]; rfl, by rw [HZ.out]; exact H2.out, HF2.out⟩
    obtain ⟨k, rfl⟩ : ∃ k : Nat, x = k := ⟨x.toNat, by omega⟩
    have hk9 : k < 9 := by have := H2.out.vo.2; omega
    have hk9i : (k : Int) < 9 := by omega
    have hk0 : (0 : Int) ≤ (k : Int) := by omega
    have hkv : (k : Int) < (R.voters : Int) := by omega
    replace HX2 := Lib.hid (HX2.out (by rw [← HSLE.out]; intro h; rcases h with h | h; exact h rfl; exact h ⟨hk0, hkv⟩))
    have ct : w2.cell? ⟨g, 14 + k, none⟩ = some (.bool (R.tk (k : Int))) := (H2.out.bk.cell (14 + k)).trans (rdc_getT R A _ c k hk9)
    have f1 := H2.out.bk.free (14 + k)
    obtain ⟨p, hp⟩ : ∃ p, p = fun y => decide (y = (k : Int)) || R.tk y := ⟨_, rfl⟩
    obtain ⟨w3, hw3⟩ : ∃ w3, w3 = w2.setCell ⟨g, 14 + k, none⟩ (.bool true) := ⟨_, rfl⟩
    have H3 : Hid (RdL w3 B g A c { R with tk := p }) := by
      rw [hw3, hp]
      exact H2.out.put (14 + k) (.bool true) (rdc_tk R A _ c k hk9) rfl rfl H2.out.sl H2.out.ho
    have HF3 : Hid (Fr (fun j => j = g) w w3) := by
      show Fr _ _ _
      rw [hw3]
      exact HF2.out.setCell (p := ⟨g, 14 + k, none⟩) (fun _ => rfl) _
    rw [← hp] at HX2
    obtain ⟨n, hn⟩ : ∃ n, n = R.told.length := ⟨_, rfl⟩
    have HB : Hid (Bk w3 g 48 (rdc { R with tk := p } A n c)) := by show Bk _ _ _ _; rw [hn]; exact H3.out.bk
    have sOf : Hid (∀ W, Bk W g 48 (rdc { R with tk := p } A n c) → W.cell? ⟨g, 0, none⟩ = some (.int .i64 (R.voters : Int)) ∧ W.cell? ⟨g, 14, none⟩ = some (.bool (p 0)) ∧ W.cell? ⟨g, 15, none⟩ = some (.bool (p 1)) ∧ W.cell? ⟨g, 16, none⟩ = some (.bool (p 2)) ∧ W.cell? ⟨g, 17, none⟩ = some (.bool (p 3)) ∧ W.cell? ⟨g, 18, none⟩ = some (.bool (p 4)) ∧ W.cell? ⟨g, 19, none⟩ = some (.bool (p 5)) ∧ W.cell? ⟨g, 20, none⟩ = some (.bool (p 6)) ∧ W.cell? ⟨g, 21, none⟩ = some (.bool (p 7)) ∧ W.cell? ⟨g, 22, none⟩ = some (.bool (p 8))) := fun W h => ⟨h.cell 0, h.cell 14, h.cell 15, h.cell 16, h.cell 17, h.cell 18, h.cell 19, h.cell 20, h.cell 21, h.cell 22⟩
    have HC := Lib.hid fun W => count_any W p
    unfold bvs at HC
    have hc9 : cnt p ≤ 9 := cnt_le p
    have hwm : IntKind.i64.wrap (2 * (cnt p : Int)) = 2 * (cnt p : Int) := IntWalk.i64_in _ (by omega)
    have HVO := Lib.hid H2.out.vo
    have hws : IntKind.i64.wrap ((R.slot : Int) + 1) = (R.slot : Int) + 1 := IntWalk.i64_in _ (by omega)
    obtain ⟨q, hq⟩ : ∃ q, q = cnt p := ⟨_, rfl⟩
    rw [← hq] at HX2 HC hc9 hwm
    clear H2 hp hq hn HX1
    go_wp2_with fail
    rw [← hw3]
    clear hw3 c0 c1 ct f1
    refine wp_region_held_drew (S := fun w' => w'.cell? ⟨g, 0, none⟩ = some (.int .i64 (R.voters : Int)) ∧ w'.cell? ⟨g, 14, none⟩ = some (.bool (p 0)) ∧ w'.cell? ⟨g, 15, none⟩ = some (.bool (p 1)) ∧ w'.cell? ⟨g, 16, none⟩ = some (.bool (p 2)) ∧ w'.cell? ⟨g, 17, none⟩ = some (.bool (p 3)) ∧ w'.cell? ⟨g, 18, none⟩ = some (.bool (p 4)) ∧ w'.cell? ⟨g, 19, none⟩ = some (.bool (p 5)) ∧ w'.cell? ⟨g, 20, none⟩ = some (.bool (p 6)) ∧ w'.cell? ⟨g, 21, none⟩ = some (.bool (p 7)) ∧ w'.cell? ⟨g, 22, none⟩ = some (.bool (p 8))) (by kernel_rfl) (sOf.out _ (HB.out.fr (Fr.refl NoBlk _).drew fun h => h)) (fun hHeld => ?_)
    refine wpAnyH_take (i := 0) (oi := ⟨some 42, _, _, _, _, _⟩) (v := ?_) rfl (by kernel_rfl) (by kernel_rfl) (by kernel_rfl) (fun _ _ _ h => h) (Or.inl ⟨by rfl, ?_⟩) (by assumption) ?_
    rotate_left 1
    · (intro w hSw; (try dsimp only at hSw); obtain ⟨hSv, hS0, hS1, hS2, hS3, hS4, hS5, hS6, hS7, hS8⟩ := hSw; go_simp) <;> (with_reducible rfl)
    try simp only [Act.put, List.setIfInBounds_toArray, List.set_cons_zero, List.set_cons_succ]
    refine wpAnyH_take (i := 1) (oi := ⟨some 43, _, _, _, _, _⟩) (v := ?_) rfl (by kernel_rfl) (by kernel_rfl) (by kernel_rfl) (fun _ _ _ h => h) (Or.inl ⟨by rfl, ?_⟩) (by assumption) ?_
    rotate_left 1
    · (intro w hSw; (try dsimp only at hSw); obtain ⟨hSv, hS0, hS1, hS2, hS3, hS4, hS5, hS6, hS7, hS8⟩ := hSw; go_simp) <;> (with_reducible rfl)
    try simp only [Act.put, List.setIfInBounds_toArray, List.set_cons_zero, List.set_cons_succ]
    refine wpAnyH_take (i := 2) (oi := ⟨some 44, _, _, _, _, _⟩) (v := ?_) rfl (by kernel_rfl) (by kernel_rfl) (by kernel_rfl) (fun _ _ _ h => h) (Or.inl ⟨by rfl, ?_⟩) (by assumption) ?_
    rotate_left 1
    · (intro w hSw; (try dsimp only at hSw); obtain ⟨hSv, hS0, hS1, hS2, hS3, hS4, hS5, hS6, hS7, hS8⟩ := hSw; go_simp) <;> (with_reducible rfl)
    try simp only [Act.put, List.setIfInBounds_toArray, List.set_cons_zero, List.set_cons_succ]
    refine wpAnyH_take (i := 3) (oi := ⟨some 45, _, _, _, _, _⟩) (v := ?_) rfl (by kernel_rfl) (by kernel_rfl) (by kernel_rfl) (fun _ _ _ h => h) (Or.inl ⟨by rfl, ?_⟩) (by assumption) ?_
    rotate_left 1
    · (intro w hSw; (try dsimp only at hSw); obtain ⟨hSv, hS0, hS1, hS2, hS3, hS4, hS5, hS6, hS7, hS8⟩ := hSw; go_simp) <;> (with_reducible rfl)
    try simp only [Act.put, List.setIfInBounds_toArray, List.set_cons_zero, List.set_cons_succ]
    refine wpAnyH_take (i := 6) (oi := ⟨some 48, _, _, _, _, _⟩) (v := ?_) rfl (by kernel_rfl) (by kernel_rfl) (by kernel_rfl) (fun _ _ _ h => h) (Or.inl ⟨by rfl, ?_⟩) (by assumption) ?_
    rotate_left 1
    · (intro w hSw; (try dsimp only at hSw); obtain ⟨hSv, hS0, hS1, hS2, hS3, hS4, hS5, hS6, hS7, hS8⟩ := hSw; go_simp) <;> (with_reducible rfl)
    try simp only [Act.put, List.setIfInBounds_toArray, List.set_cons_zero, List.set_cons_succ]
    refine wpAnyH_take (i := 7) (oi := ⟨some 49, _, _, _, _, _⟩) (v := ?_) rfl (by kernel_rfl) (by kernel_rfl) (by kernel_rfl) (fun _ _ _ h => h) (Or.inl ⟨by rfl, ?_⟩) (by assumption) ?_
    rotate_left 1
    · (intro w hSw; (try dsimp only at hSw); obtain ⟨hSv, hS0, hS1, hS2, hS3, hS4, hS5, hS6, hS7, hS8⟩ := hSw; go_simp) <;> (with_reducible rfl)
    try simp only [Act.put, List.setIfInBounds_toArray, List.set_cons_zero, List.set_cons_succ]
    refine wpAnyH_take (i := 8) (oi := ⟨some 50, _, _, _, _, _⟩) (v := ?_) rfl (by kernel_rfl) (by kernel_rfl) (by kernel_rfl) (fun _ _ _ h => h) (Or.inl ⟨by rfl, ?_⟩) (by assumption) ?_
    rotate_left 1
    · (intro w hSw; (try dsimp only at hSw); obtain ⟨hSv, hS0, hS1, hS2, hS3, hS4, hS5, hS6, hS7, hS8⟩ := hSw; go_simp) <;> (with_reducible rfl)
    try simp only [Act.put, List.setIfInBounds_toArray, List.set_cons_zero, List.set_cons_succ]
    refine wpAnyH_take (i := 9) (oi := ⟨some 51, _, _, _, _, _⟩) (v := ?_) rfl (by kernel_rfl) (by kernel_rfl) (by kernel_rfl) (fun _ _ _ h => h) (Or.inl ⟨by rfl, ?_⟩) (by assumption) ?_
    rotate_left 1
    · (intro w hSw; (try dsimp only at hSw); obtain ⟨hSv, hS0, hS1, hS2, hS3, hS4, hS5, hS6, hS7, hS8⟩ := hSw; go_simp) <;> (with_reducible rfl)
    try simp only [Act.put, List.setIfInBounds_toArray, List.set_cons_zero, List.set_cons_succ]
    refine wpAnyH_ready (rs := [4]) (by kernel_rfl) (by simp) ?_
    refine AllReadyH.cons (o := ⟨some 46, _, _, _, _, _⟩) rfl (fun K hK => ?_) AllReadyH.nil
    go_simp
    go_at_call 40
    refine (HC.out _).mono ?_
    rintro e w5 ⟨rfl, hf5⟩
    have HF5 := Lib.hid ((Fr.refl NoBlk _).drew.trans hf5)
    clear hf5 hHeld
    refine hK.out _ _ ?_ (fun hHeld => ?_)
    · exact sOf.out _ (HB.out.fr HF5.out fun h => h)
    clear hK K
    try simp only [Act.put, List.setIfInBounds_toArray, List.set_cons_zero, List.set_cons_succ]
    refine wpAnyH_take (i := 5) (oi := ⟨some 47, _, _, _, _, _⟩) (v := ?_) rfl (by kernel_rfl) (by kernel_rfl) (by kernel_rfl) (fun _ _ _ h => h) (Or.inl ⟨by rfl, ?_⟩) (by assumption) ?_
    rotate_left 1
    · (intro w hSw; (try dsimp only at hSw); obtain ⟨hSv, hS0, hS1, hS2, hS3, hS4, hS5, hS6, hS7, hS8⟩ := hSw; go_simp) <;> (with_reducible rfl)
    try simp only [Act.put, List.setIfInBounds_toArray, List.set_cons_zero, List.set_cons_succ]
    refine wpAnyH_take (i := 10) (oi := ⟨some 52, _, _, _, _, _⟩) (v := ?_) rfl (by kernel_rfl) (by kernel_rfl) (by kernel_rfl) (fun _ _ _ h => h) (Or.inl ⟨by rfl, ?_⟩) (by assumption) ?_
    rotate_left 1
    · (intro w hSw; (try dsimp only at hSw); obtain ⟨hSv, hS0, hS1, hS2, hS3, hS4, hS5, hS6, hS7, hS8⟩ := hSw; go_simp) <;> (with_reducible rfl)
    try simp only [Act.put, List.setIfInBounds_toArray, List.set_cons_zero, List.set_cons_succ]
    refine wpAnyH_done (by kernel_rfl) ?_ _
    clear hHeld
    have H5B := Lib.hid (HB.out.fr HF5.out fun h => h)
    have H5 := Lib.hid (H3.out.nofr HF5.out)
    have HF5' : Hid (Fr (fun j => j = g) w w5) := HF3.out.trans (HF5.out.mono fun _ _ h => h.elim)
    by_cases hq : 2 * (q : Int) ≤ (R.voters : Int)
    · have HZ : Hid (T = ({ R with tk := p }, none)) := by show _ = _; rw [HX2.out, if_neg (by omega)]
      clear HX2
      go_wp2_with fail
      go_ret2
      exact ⟨by rw [HZ.out]; rfl, by rw [HZ.out]; exact H5.out, HF5'.out⟩
    · have HZ : Hid (T = ({ R with slot := R.slot + 1, off := ⟨#[]⟩, has := false, tk := fun _ => false }, some v)) := by show _ = _; rw [HX2.out, if_pos (by omega)]
      have b1 : w5.cell? ⟨g, 1, none⟩ = some (.int .i64 (R.slot : Int)) := H5B.out.cell 1
      have g1 := H5B.out.free 1
      have b12 : w5.cell? ⟨g, 12, none⟩ = some (.string R.off) := H5B.out.cell 12
      have g12 := H5B.out.free 12
      have b13 : w5.cell? ⟨g, 13, none⟩ = some (.bool R.has) := H5B.out.cell 13
      have g13 := H5B.out.free 13
      have b14 : w5.cell? ⟨g, 14, none⟩ = some (.bool (p 0)) := H5B.out.cell 14
      have g14 := H5B.out.free 14
      have b15 : w5.cell? ⟨g, 15, none⟩ = some (.bool (p 1)) := H5B.out.cell 15
      have g15 := H5B.out.free 15
      have b16 : w5.cell? ⟨g, 16, none⟩ = some (.bool (p 2)) := H5B.out.cell 16
      have g16 := H5B.out.free 16
      have b17 : w5.cell? ⟨g, 17, none⟩ = some (.bool (p 3)) := H5B.out.cell 17
      have g17 := H5B.out.free 17
      have b18 : w5.cell? ⟨g, 18, none⟩ = some (.bool (p 4)) := H5B.out.cell 18
      have g18 := H5B.out.free 18
      have b19 : w5.cell? ⟨g, 19, none⟩ = some (.bool (p 5)) := H5B.out.cell 19
      have g19 := H5B.out.free 19
      have b20 : w5.cell? ⟨g, 20, none⟩ = some (.bool (p 6)) := H5B.out.cell 20
      have g20 := H5B.out.free 20
      have b21 : w5.cell? ⟨g, 21, none⟩ = some (.bool (p 7)) := H5B.out.cell 21
      have g21 := H5B.out.free 21
      have b22 : w5.cell? ⟨g, 22, none⟩ = some (.bool (p 8)) := H5B.out.cell 22
      have g22 := H5B.out.free 22
      have HW : Hid (RdL ((((((((((((w5.setCell ⟨g, 1, none⟩ (.int .i64 ((R.slot : Int) + 1))).setCell ⟨g, 12, none⟩ (Value.string { data := #[] })).setCell ⟨g, 13, none⟩ (.bool false)).setCell ⟨g, 14, none⟩ (.bool false)).setCell ⟨g, 15, none⟩ (.bool false)).setCell ⟨g, 16, none⟩ (.bool false)).setCell ⟨g, 17, none⟩ (.bool false)).setCell ⟨g, 18, none⟩ (.bool false)).setCell ⟨g, 19, none⟩ (.bool false)).setCell ⟨g, 20, none⟩ (.bool false)).setCell ⟨g, 21, none⟩ (.bool false)).setCell ⟨g, 22, none⟩ (.bool false)) B g A c { R with slot := R.slot + 1, off := ⟨#[]⟩, has := false, tk := fun _ => false } ∧ Fr (fun j => j = g) w ((((((((((((w5.setCell ⟨g, 1, none⟩ (.int .i64 ((R.slot : Int) + 1))).setCell ⟨g, 12, none⟩ (Value.string { data := #[] })).setCell ⟨g, 13, none⟩ (.bool false)).setCell ⟨g, 14, none⟩ (.bool false)).setCell ⟨g, 15, none⟩ (.bool false)).setCell ⟨g, 16, none⟩ (.bool false)).setCell ⟨g, 17, none⟩ (.bool false)).setCell ⟨g, 18, none⟩ (.bool false)).setCell ⟨g, 19, none⟩ (.bool false)).setCell ⟨g, 20, none⟩ (.bool false)).setCell ⟨g, 21, none⟩ (.bool false)).setCell ⟨g, 22, none⟩ (.bool false))) := by
        have hf : Fr (fun j => j = g) w5 ((((((((((((w5.setCell ⟨g, 1, none⟩ (.int .i64 ((R.slot : Int) + 1))).setCell ⟨g, 12, none⟩ (Value.string { data := #[] })).setCell ⟨g, 13, none⟩ (.bool false)).setCell ⟨g, 14, none⟩ (.bool false)).setCell ⟨g, 15, none⟩ (.bool false)).setCell ⟨g, 16, none⟩ (.bool false)).setCell ⟨g, 17, none⟩ (.bool false)).setCell ⟨g, 18, none⟩ (.bool false)).setCell ⟨g, 19, none⟩ (.bool false)).setCell ⟨g, 20, none⟩ (.bool false)).setCell ⟨g, 21, none⟩ (.bool false)).setCell ⟨g, 22, none⟩ (.bool false)) := (((((((((((((Fr.refl (fun j => j = g) w5).setCell (p := ⟨g, 1, none⟩) (fun _ => rfl) (.int .i64 ((R.slot : Int) + 1))).setCell (p := ⟨g, 12, none⟩) (fun _ => rfl) (Value.string { data := #[] })).setCell (p := ⟨g, 13, none⟩) (fun _ => rfl) (.bool false)).setCell (p := ⟨g, 14, none⟩) (fun _ => rfl) (.bool false)).setCell (p := ⟨g, 15, none⟩) (fun _ => rfl) (.bool false)).setCell (p := ⟨g, 16, none⟩) (fun _ => rfl) (.bool false)).setCell (p := ⟨g, 17, none⟩) (fun _ => rfl) (.bool false)).setCell (p := ⟨g, 18, none⟩) (fun _ => rfl) (.bool false)).setCell (p := ⟨g, 19, none⟩) (fun _ => rfl) (.bool false)).setCell (p := ⟨g, 20, none⟩) (fun _ => rfl) (.bool false)).setCell (p := ⟨g, 21, none⟩) (fun _ => rfl) (.bool false)).setCell (p := ⟨g, 22, none⟩) (fun _ => rfl) (.bool false))
        refine ⟨H5.out.turn hf (((((((((((((H5.out.bk.put 1 (.int .i64 ((R.slot : Int) + 1))).put 12 (Value.string { data := #[] })).put 13 (.bool false)).put 14 (.bool false)).put 15 (.bool false)).put 16 (.bool false)).put 17 (.bool false)).put 18 (.bool false)).put 19 (.bool false)).put 20 (.bool false)).put 21 (.bool false)).put 22 (.bool false))) (rdc_next R p A _ c) rfl rfl (by show R.slot + 1 ≤ 64; omega) (fun _ => rfl), HF5'.out.trans hf⟩
      clear HX2 H5 H5B HB H3 sOf
      have hsl2 := HSLE.out
      rw [← hsl2] at hws b1 HW
      clear hsl2
      go_wp2_with fail
      go_ret2
      exact ⟨by rw [HZ.out]; rfl, by rw [HZ.out]; exact HW.out.1, HW.out.2⟩
end Go.Proofs.Ytimfinpifngdiaa
