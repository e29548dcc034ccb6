/- The program's Leader at string: Offer, Taken. Conditions: numbers of their types; fewer entries than a length can be. -/
import Derived.Test.YtlajhnplkfiiiaaLe2S
import Derived.Test.YtlajhnplkfiiiaaLe2S
namespace Go.Proofs.Ytlajhnplkfiiiaa
open Go.RowKit Go.Maps

theorem ld_map_neS {w : World} {B g bp bt bv : Nat} {L : LdrS} (h : LdS w B g bp bt bv L) : g ≠ bp ∧ g ≠ bt ∧ g ≠ bv := by
  have hb : ∀ {b s : Nat} {f : Int → Option Value}, Km Try.prog 3 w b s f → g ≠ b := fun hk e => by
    subst e
    obtain ⟨D, ⟨es, clock, hb, _⟩, _⟩ := hk
    have h1 := h.bk
    unfold Bk at h1
    rw [h1] at hb
    cases hb
  exact ⟨hb h.kp, hb h.kt, hb h.kv⟩
theorem ldc_cellsS {w : World} {B g bp bt bv : Nat} {L : LdrS} (h : LdS w B g bp bt bv L) : w.cell? ⟨g, 0, none⟩ = some (.int .i64 (L.voters : Int)) ∧ w.cell? ⟨g, 1, none⟩ = some (.int .i64 (L.slot : Int)) ∧ w.cell? ⟨g, 2, none⟩ = some (.bool L.leads) ∧ w.cell? ⟨g, 3, none⟩ = some (.map (some bp)) ∧ w.cell? ⟨g, 4, none⟩ = some (.map (some bt)) ∧ w.cell? ⟨g, 5, none⟩ = some (.map (some bv)) := by
  have hb := h.bk
  unfold ldcS at hb
  exact ⟨hb.cell 0, hb.cell 1, hb.cell 2, hb.cell 3, hb.cell 4, hb.cell 5⟩

/-- whether an offer is taken, and the leader behind it. -/
def offBS (L : LdrS) : Bool := (valOS L).isNone && L.leads && decide (L.slot ≠ 64)
def offS (L : LdrS) (v : ByteArray) : LdrS := if offBS L then { L with vals := updK L.vals (L.slot : Int) (some (0, 0, v)), nv := L.nv + 1 } else L
set_option maxRecDepth 100000 in
set_option maxHeartbeats 2000000 in
theorem offerS_any (w : World) (B g bp bt bv : Nat) (L : LdrS) (h : LdS w B g bp bt bv L) (hn : L.nv < 100000) (v : ByteArray) :
    Calls Try.prog 19 #[.pointer (some ⟨g, 0, none⟩), evS v] w fun e w' => e = .returned (.bool (offBS L)) ∧ LdS w' B g bp bt bv (offS L v) ∧ Fr (fun j => j = bv) w w' := by
  have HV := Lib.hid (valueS_any w B g bp bt bv L h)
  have HL := Lib.hid h
  have hsl := h.sl
  have hx : wf64 (L.slot : Int) := wf64_of (by omega)
  have HP : Hid (∀ W, LdS W B g bp bt bv L → L.slot ≠ 64 → L.vals (L.slot : Int) = none → ∃ w', (Instr.mapUpdate 84 (.map (some bv)) (.int .i64 (L.slot : Int)) (.agg #[.int .i64 0, .int .u64 0, evS v])).run Try.prog W = .ok () w' ∧ LdS w' B g bp bt bv { L with vals := updK L.vals (L.slot : Int) (some (0, 0, v)), nv := L.nv + 1 } ∧ Fr (fun j => j = bv) W w') := fun W hW hr hno => by
    obtain ⟨w', h1, h2, h3⟩ := hW.kv.put Try.underlying3 Try.underlying84 (by unfold maxLen; omega) hx (vtvS (0, 0, v))
    rw [hno] at h2
    exact ⟨w', h1, hW.put ⟨by omega, by omega⟩ (0, 0, v) h2 h3, h3⟩
  have HO1 : Hid (offBS L = true → offS L v = { L with vals := updK L.vals (L.slot : Int) (some (0, 0, v)), nv := L.nv + 1 }) := fun hh => by unfold offS; rw [if_pos hh]
  have HO0 : Hid (offBS L = false → offS L v = L) := fun hh => by unfold offS; rw [if_neg (by rw [hh]; decide)]
  have HOB : Hid (offBS L = ((valOS L).isNone && L.leads && decide (L.slot ≠ 64))) := rfl
  have HVN : Hid (valOS L = none → L.leads = true → L.vals (L.slot : Int) = none) := fun h1 h2 => by
    unfold valOS at h1
    rw [if_pos h2] at h1
    cases hv : L.vals (L.slot : Int) with
    | none => rfl
    | some x => rw [hv] at h1; cases h1
  generalize offS L v = L' at *
  generalize offBS L = fb at *
  obtain ⟨o, ho⟩ : ∃ o, o = valOS L := ⟨_, rfl⟩
  rw [← ho] at HV HOB HVN
  unfold tupS at HV
  unfold evS at HP ⊢
  clear h ho hx hn hsl
  go_enter Try.func19, Try.ntmps19
  go_wp2_with fail
  refine HV.out.mono ?_
  clear HV
  rintro e w1 ⟨rfl, hf1⟩
  have HL1 := Lib.hid (HL.out.nofr hf1)
  have HF1 := Lib.hid (hf1.mono (D := fun j => j = bv) fun _ _ h => h.elim)
  have g2 := (ldc_cellsS HL1.out).2.2.1
  have g1 := (ldc_cellsS HL1.out).2.1
  clear hf1
  cases o with
  | some u =>
    obtain rfl : fb = false := HOB.out
    have HZ : Hid (L' = L) := HO0.out rfl
    simp only [Option.map_some, Option.getD_some, Option.isSome_some]
    go_wp2_with fail
    go_ret
    exact ⟨rfl, by rw [HZ.out]; exact HL1.out, HF1.out⟩
  | none =>
    simp only [Option.map_none, Option.getD_none, Option.isSome_none]
    obtain ⟨ld, hld⟩ : ∃ ld, ld = L.leads := ⟨_, rfl⟩
    rw [← hld] at g2 HOB HVN
    clear hld
    cases ld with
    | false =>
      obtain rfl : fb = false := HOB.out
      have HZ : Hid (L' = L) := HO0.out rfl
      go_wp2_with fail
      go_ret
      exact ⟨rfl, by rw [HZ.out]; exact HL1.out, HF1.out⟩
    | true =>
      have HVN2 := Lib.hid (HVN.out rfl rfl)
      by_cases h64 : L.slot = 64
      · obtain rfl : fb = false := by rw [HOB.out, decide_eq_false (by omega)]; rfl
        have HZ : Hid (L' = L) := HO0.out rfl
        have e64 : ((L.slot : Int) == 64) = true := by rw [beq_iff_eq]; omega
        generalize (L.slot : Int) = sl at *
        clear h64
        go_wp2_with fail
        go_ret
        exact ⟨rfl, by rw [HZ.out]; exact HL1.out, HF1.out⟩
      · obtain rfl : fb = true := by rw [HOB.out, decide_eq_true h64]; rfl
        have HZ := Lib.hid (HO1.out rfl)
        have e64 : ((L.slot : Int) == 64) = false := beq_eq_false_iff_ne.2 (by omega)
        have hL2 := HL1.out.nofr (w' := w1.drew) (Fr.refl _ _).drew
        obtain ⟨w2, hput, hl2, hf2⟩ := HP.out w1.drew hL2 h64 HVN2.out
        have k1 := (ldc_cellsS hL2).2.1
        have k5 := (ldc_cellsS hL2).2.2.2.2.2
        have hz := zeroVtS w1.drew
        unfold zvS at hz
        have HL2 := Lib.hid hl2
        have HF2 := Lib.hid (HF1.out.drew.trans hf2)
        have HZ2 : Hid (LdS w2 B g bp bt bv L') := by show LdS _ _ _ _ _ _ _; rw [HZ.out]; exact HL2.out
        clear hl2 hf2 hL2 h64 HL2 HZ HP
        generalize (L.slot : Int) = sl at *
        go_wp2_with fail
        go_region
        go_wp2_with fail
        go_ret
        exact ⟨rfl, HZ2.out, HF2.out⟩

/-- behind a voter's word that it has taken a value: the leader, and the value that is chosen. -/
def takenS (L : LdrS) (x s : Int) : LdrS × Option ByteArray :=
  match valOS L with
  | none => (L, none)
  | some v => if s ≠ (L.slot : Int) ∨ hearB L.tk L.voters x = false then (L, none)
    else if L.voters < 2 * (L.nt + 1) then ({ L with vals := updK L.vals (L.slot : Int) none, nv := L.nv - 1, tk := fun _ => false, nt := 0, slot := L.slot + 1 }, some v)
    else ({ L with tk := hearP L.tk L.voters x, nt := L.nt + 1 }, none)
theorem LdS.setT {w w' : World} {B g bp bt bv : Nat} {L : LdrS} (h : LdS w B g bp bt bv L) {n : Nat} {t : Int → Bool} (hk : Km Try.prog 3 w' bt n (setF t)) (hf : Fr (fun j => j = bt) w w') : LdS w' B g bp bt bv { L with tk := t, nt := n } :=
  ⟨h.bk.fr hf (ld_map_neS h).2.1, h.kp.fr hf h.n1, hk, h.kv.fr hf (fun e => h.n3 e.symm), h.n1, h.n2, h.n3, h.b0, h.b1, h.b2, h.b3, h.vo, h.sl, h.vd⟩
theorem LdS.setP {w w' : World} {B g bp bt bv : Nat} {L : LdrS} (h : LdS w B g bp bt bv L) {n : Nat} {t : Int → Bool} (hk : Km Try.prog 3 w' bp n (setF t)) (hf : Fr (fun j => j = bp) w w') : LdS w' B g bp bt bv { L with pr := t, np := n } :=
  ⟨h.bk.fr hf (ld_map_neS h).1, hk, h.kt.fr hf (fun e => h.n1 e.symm), h.kv.fr hf (fun e => h.n2 e.symm), h.n1, h.n2, h.n3, h.b0, h.b1, h.b2, h.b3, h.vo, h.sl, h.vd⟩
theorem LdS.del {w w' : World} {B g bp bt bv : Nat} {L : LdrS} (h : LdS w B g bp bt bv L) {x : Int} {n : Nat}
    (hk : Km Try.prog 3 w' bv n (updK (fun x => (L.vals x).map vtvS) x none)) (hf : Fr (fun j => j = bv) w w') : LdS w' B g bp bt bv { L with vals := updK L.vals x none, nv := n } := by
  refine ⟨h.bk.fr hf (ld_map_neS h).2.2, h.kp.fr hf h.n2, h.kt.fr hf h.n3, hk.congr fun y _ => updK_map vtvS L.vals x none y, h.n1, h.n2, h.n3, h.b0, h.b1, h.b2, h.b3, h.vo, h.sl, fun y hy => ?_⟩
  by_cases e : y = x
  · subst e; exact absurd (updK_same L.vals y none) hy
  · exact h.vd y (by rwa [show ({ L with vals := updK L.vals x none, nv := n } : LdrS).vals y = L.vals y from updK_other _ _ e] at hy)
theorem LdS.setC {w : World} {B g bp bt bv : Nat} {L L2 : LdrS} (h : LdS w B g bp bt bv L) (i : Nat) (u : Value) (he : (ldcS L bp bt bv).setIfInBounds i u = ldcS L2 bp bt bv) (h1 : L2.pr = L.pr) (h2 : L2.np = L.np) (h3 : L2.tk = L.tk) (h4 : L2.nt = L.nt) (h5 : L2.vals = L.vals) (h6 : L2.nv = L.nv) (h7 : L2.voters = L.voters) (h8 : L2.slot ≤ 64) :
    LdS (w.setCell ⟨g, i, none⟩ u) B g bp bt bv L2 := by
  have hf : Fr (fun j => j = g) w (w.setCell ⟨g, i, none⟩ u) := (Fr.refl (fun j => j = g) w).setCell (p := ⟨g, i, none⟩) (fun _ => rfl) _
  have hne := ld_map_neS h
  refine ⟨he ▸ h.bk.put i u, ?_, ?_, ?_, h.n1, h.n2, h.n3, h.b0, h.b1, h.b2, h.b3, h7 ▸ h.vo, h8, h5 ▸ h.vd⟩
  · rw [h1, h2]; exact h.kp.fr hf (fun e => hne.1 e.symm)
  · rw [h3, h4]; exact h.kt.fr hf (fun e => hne.2.1 e.symm)
  · rw [h5, h6]; exact h.kv.fr hf (fun e => hne.2.2 e.symm)

set_option maxRecDepth 100000 in
set_option maxHeartbeats 4000000 in
theorem takenS_any (w : World) (B g bp bt bv : Nat) (L : LdrS) (h : LdS w B g bp bt bv L) (hn : L.nt < 1000) (x s : Int) (hx : wf64 x) :
    Calls Try.prog 21 #[.pointer (some ⟨g, 0, none⟩), .int .i64 x, .int .i64 s] w fun e w' => e = .returned (tupS (takenS L x s).2) ∧ LdS w' B g bp bt bv (takenS L x s).1 ∧ Fr (TkB g bt bv) w w' := by
  have HV := Lib.hid (valueS_any w B g bp bt bv L h)
  have HL := Lib.hid h
  have hsl := h.sl
  have hvo := h.vo
  have HN := Lib.hid hn
  have HX := Lib.hid hx
  have HT0 : Hid (valOS L = none → takenS L x s = (L, none)) := fun hh => by unfold takenS; rw [hh]
  have HT1 : Hid (∀ v, valOS L = some v → (s ≠ (L.slot : Int) ∨ hearB L.tk L.voters x = false) → takenS L x s = (L, none)) := fun v hh h2 => by unfold takenS; rw [hh]; exact if_pos h2
  have HT2 : Hid (∀ v, valOS L = some v → s = (L.slot : Int) → hearB L.tk L.voters x = true → L.voters < 2 * (L.nt + 1) → takenS L x s = ({ L with vals := updK L.vals (L.slot : Int) none, nv := L.nv - 1, tk := fun _ => false, nt := 0, slot := L.slot + 1 }, some v)) := fun v hh h2 h3 h4 => by
    unfold takenS; rw [hh]
    show (if _ then _ else _) = _
    rw [if_neg (by rw [h3]; intro hc; rcases hc with hc | hc; exact hc h2; cases hc), if_pos h4]
  have HT3 : Hid (∀ v, valOS L = some v → s = (L.slot : Int) → hearB L.tk L.voters x = true → ¬ (L.voters < 2 * (L.nt + 1)) → takenS L x s = ({ L with tk := hearP L.tk L.voters x, nt := L.nt + 1 }, none)) := fun v hh h2 h3 h4 => by
    unfold takenS; rw [hh]
    show (if _ then _ else _) = _
    rw [if_neg (by rw [h3]; intro hc; rcases hc with hc | hc; exact hc h2; cases hc), if_neg h4]
  have HVS : Hid (∀ v, valOS L = some v → ∃ a, L.vals (L.slot : Int) = some a) := fun v hh => by
    unfold valOS at hh
    split at hh
    · cases hv : L.vals (L.slot : Int) with
      | none => rw [hv] at hh; cases hh
      | some a => exact ⟨a, rfl⟩
    · cases hh
  generalize takenS L x s = R at *
  obtain ⟨L', r⟩ := R
  dsimp only
  obtain ⟨o, ho⟩ : ∃ o, o = valOS L := ⟨_, rfl⟩
  rw [← ho] at HV HT0 HT1 HT2 HT3 HVS
  unfold tupS at HV
  clear h ho hx hn
  go_enter Try.func21, Try.ntmps21
  go_wp2_with fail
  refine HV.out.mono ?_
  clear HV
  rintro e w1 ⟨rfl, hf1⟩
  have HL1 := Lib.hid (HL.out.nofr hf1)
  have HF1 := Lib.hid (hf1.mono (D := TkB g bt bv) fun _ _ h => h.elim)
  have g1 := (ldc_cellsS HL1.out).2.1
  have g4 := (ldc_cellsS HL1.out).2.2.2.2.1
  clear hf1 HL
  cases o with
  | none =>
    have hz := HT0.out rfl
    injection hz with hz1 hz2
    have HZ1 := Lib.hid hz1
    subst hz2
    clear hz1
    simp only [Option.map_none, Option.getD_none, Option.isSome_none]
    go_wp2_with fail
    go_ret2
    exact ⟨rfl, by rw [HZ1.out]; exact HL1.out, HF1.out⟩
  | some v =>
    simp only [Option.map_some, Option.getD_some, Option.isSome_some]
    by_cases hs : s = (L.slot : Int)
    rotate_left
    · have hz := HT1.out v rfl (.inl hs)
      injection hz with hz1 hz2
      have HZ1 := Lib.hid hz1
      subst hz2
      clear hz1
      have e1 : (s == (L.slot : Int)) = false := beq_eq_false_iff_ne.2 hs
      have e2 : (s != (L.slot : Int)) = true := by rw [bne, e1]; rfl
      clear HT0 HT1 HT2 HT3 hs
      unfold evS
      go_wp2_with fail
      go_ret2
      exact ⟨rfl, by rw [HZ1.out]; exact HL1.out, HF1.out⟩
    have hbk := HL1.out.bk
    unfold ldcS at hbk
    have HR := Lib.hid (hearS_any w1 g L.voters _ _ _ _ _ hbk bt L.nt L.tk HL1.out.kt (by have := HN.out; omega) x HX.out)
    obtain ⟨fb, hfb⟩ : ∃ fb, fb = hearB L.tk L.voters x := ⟨_, rfl⟩
    rw [← hfb] at HR HT1 HT2 HT3
    have HFB := Lib.hid hfb
    clear hfb hbk HT0
    have HS := Lib.hid hs
    obtain ⟨sl, hsl2⟩ : ∃ sl, sl = (L.slot : Int) := ⟨_, rfl⟩
    have HSL := Lib.hid hsl2
    rw [← hsl2] at g1
    have hs2 : s = sl := hs.trans hsl2.symm
    subst hs2
    clear hs hsl2
    unfold evS
    go_wp2_with fail
    refine HR.out.mono ?_
    clear HR
    rintro e w2 ⟨rfl, hk2, hf2⟩
    have HF2 := Lib.hid (HF1.out.trans (hf2.mono (D := TkB g bt bv) fun _ _ h => .inr (.inl h)))
    cases fb with
    | false =>
      have hz := HT1.out v rfl (.inr rfl)
      injection hz with hz1 hz2
      have HZ1 := Lib.hid hz1
      subst hz2
      clear hz1
      have HL2 : Hid (LdS w2 B g bp bt bv L) := by
        show LdS _ _ _ _ _ _ _
        rw [show hearP L.tk L.voters x = L.tk by unfold hearP; rw [if_neg (by rw [← HFB.out]; decide)]] at hk2
        exact HL1.out.setT hk2 hf2
      clear hk2 hf2 HT1 HT2 HT3
      go_wp2_with fail
      go_ret2
      exact ⟨rfl, by rw [HZ1.out]; exact HL2.out, HF2.out⟩
    | true =>
      simp only [if_true] at hk2
      have HL2 := Lib.hid (HL1.out.setT hk2 hf2)
      have hbk := HL2.out.bk
      unfold ldcS at hbk
      have HE := Lib.hid (enoughS_any w2 g L.voters _ _ _ _ _ hbk bt (L.nt + 1) _ HL2.out.kt (by have := HN.out; omega))
      have g4 := (ldc_cellsS HL2.out).2.2.2.2.1
      have HEN : Hid (L.voters < 2 * (L.nt + 1) ∨ ¬ (L.voters < 2 * (L.nt + 1))) := Decidable.em _
      obtain ⟨en, hen⟩ : ∃ en, en = decide (L.voters < 2 * (L.nt + 1)) := ⟨_, rfl⟩
      rw [← hen] at HE
      have HEQ := Lib.hid hen
      clear hen hbk hk2 hf2 HT1
      go_wp2_with fail
      refine HE.out.mono ?_
      clear HE
      rintro e w3 ⟨rfl, hf3⟩
      have HL3 := Lib.hid (HL2.out.nofr hf3)
      have HF3 := Lib.hid (HF2.out.trans (hf3.mono (D := TkB g bt bv) fun _ _ h => h.elim))
      clear hf3 g4 g1
      cases en with
      | false =>
        have hz := HT3.out v rfl HS.out (by trivial) (of_decide_eq_false HEQ.out.symm)
        injection hz with hz1 hz2
        have HZ1 := Lib.hid hz1
        subst hz2
        clear hz1
        clear HT2 HT3 HEN HEQ
        go_wp2_with fail
        go_ret2
        exact ⟨rfl, by rw [HZ1.out]; exact HL3.out, HF3.out⟩
      | true =>
        have hz := HT2.out v rfl HS.out (by trivial) (of_decide_eq_true HEQ.out.symm)
        injection hz with hz1 hz2
        obtain ⟨va, hva⟩ := HVS.out v rfl
        have HVA := Lib.hid hva
        have hlt : L.slot < 64 := by
          have := HL1.out.vd _ (by rw [hva]; exact fun e => by cases e)
          omega
        have hL4 := HL3.out.nofr (w' := w3.drew) (Fr.refl _ _).drew
        have k1 : w3.drew.cell? ⟨g, 1, none⟩ = some (.int .i64 s) := by rw [HSL.out]; exact (ldc_cellsS hL4).2.1
        have k5 := (ldc_cellsS hL4).2.2.2.2.2
        obtain ⟨w5, hdel, hk5, hf5⟩ := hL4.kv.del Try.underlying3 Try.underlying84 (x := s) (by rw [HSL.out]; exact wf64_of (by omega)) 0
        rw [show ((({ L with tk := hearP L.tk L.voters x, nt := L.nt + 1 } : LdrS).vals s).map vtvS).isSome = true by rw [HSL.out]; show ((L.vals (L.slot : Int)).map vtvS).isSome = true; rw [HVA.out]; rfl, if_pos rfl] at hk5
        have hL5 := hL4.del hk5 hf5
        obtain ⟨w6, hclr, hk6, hf6⟩ := hL5.kt.clear_ Try.underlying72 0
        rw [← setF_noneS] at hk6
        have hL6 := hL5.setT hk6 hf6
        have c4 : w5.cell? ⟨g, 4, none⟩ = some (.map (some bt)) := (ldc_cellsS hL5).2.2.2.2.1
        have c1 : w6.cell? ⟨g, 1, none⟩ = some (.int .i64 s) := by rw [HSL.out]; exact (ldc_cellsS hL6).2.1
        have f1 : w6.frozen? ⟨g, 1, none⟩ = false := hL6.bk.free 1
        have hwr : IntKind.i64.wrap (s + 1) = s + 1 := IntWalk.i64_in _ (by have := HSL.out; omega)
        have HL7 : Hid (LdS (w6.setCell ⟨g, 1, none⟩ (.int .i64 (s + 1))) B g bp bt bv L') := by
          show LdS _ _ _ _ _ _ _
          rw [hz1]
          refine hL6.setC 1 _ ?_ rfl rfl rfl rfl ?_ rfl rfl (by show L.slot + 1 ≤ 64; omega)
          · have es : s + 1 = ((L.slot + 1 : Nat) : Int) := by have := HSL.out; omega
            rw [es]
            rfl
          · show updK L.vals (L.slot : Int) none = updK L.vals s none
            rw [HSL.out]
        have HF7 : Hid (Fr (TkB g bt bv) w (w6.setCell ⟨g, 1, none⟩ (.int .i64 (s + 1)))) :=
          (((HF3.out.drew).trans (hf5.mono fun _ _ h => .inr (.inr h))).trans (hf6.mono fun _ _ h => .inr (.inl h))).trans ((Fr.refl (TkB g bt bv) w6).setCell (p := ⟨g, 1, none⟩) (fun _ => .inl rfl) _)
        subst hz2
        clear hz1 hL4 hL5 hL6 hk5 hk6 hf5 hf6 HT2 HT3 HEN HEQ HVS hva HSL HS HVA hlt hsl hvo HL3
        go_wp2_with fail
        go_region
        go_wp2_with fail
        go_ret2
        exact ⟨rfl, HL7.out, HF7.out⟩
end Go.Proofs.Ytlajhnplkfiiiaa
