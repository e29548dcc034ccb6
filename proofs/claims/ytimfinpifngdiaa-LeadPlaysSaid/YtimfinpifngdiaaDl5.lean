/- The program's leader and the document's go together: each call. No memory in here. Conditions: voters 1 to 9. -/
import Derived.Test.YtimfinpifngdiaaDl4
namespace Go.Proofs.Ytimfinpifngdiaa
open Go.RowKit Go.Maps

/-- what the document knows of a place. -/
def rat (R : Rdr) (x : Int) : Option VtS := match best x R.told with
  | some v => some v
  | none => if x = (R.slot : Int) ∧ R.has = true then some (0, 0, R.off) else none
/-- both say the same; b: how much they have been told, at most. -/
structure J (L : LdrS) (R : Rdr) (b : Nat) : Prop where
  v : L.voters = R.voters
  s : L.slot = R.slot
  l : L.leads = rleads R
  p : L.leads = false → L.pr = R.pr ∧ L.np = cnt R.pr
  n9 : L.np ≤ 9
  t : L.tk = R.tk
  nt : L.nt = cnt R.tk
  tl : 2 * cnt R.tk ≤ R.voters
  vals : ∀ x : Int, (R.slot : Int) ≤ x → x < 64 → L.vals x = rat R x
  hl : R.has = true → rleads R = true
  vd : ∀ x, L.vals x ≠ none → 0 ≤ x ∧ x < 64
  s64 : R.slot ≤ 64
  v9 : R.voters ≤ 9
  b1 : L.nv ≤ b
  b2 : R.told.length ≤ b
theorem J.mono {L : LdrS} {R : Rdr} {b b' : Nat} (h : J L R b) (hb : b ≤ b') : J L R b' := { h with b1 := Nat.le_trans h.b1 hb, b2 := Nat.le_trans h.b2 hb }
theorem rleads_none (v s : Nat) (hv : 1 ≤ v) : rleads ⟨v, s, fun _ => false, [], ⟨#[]⟩, false, fun _ => false⟩ = false := by
  unfold rleads
  show decide (v < 2 * 0) = false
  exact decide_eq_false (by omega)
theorem J.new {v f : Int} (hv : 1 ≤ v) (hv9 : v ≤ 9) (hf : f ≤ 64) : J (newS v f) (rnew v f) 0 where
  v := rfl
  s := rfl
  l := (rleads_none _ _ (by omega)).symm
  p := fun _ => ⟨rfl, rfl⟩
  n9 := Nat.zero_le _
  t := rfl
  nt := rfl
  tl := Nat.zero_le _
  vals := fun x _ _ => by
    show none = _
    unfold rat
    show none = if x = _ ∧ false = true then _ else _
    rw [if_neg (by rintro ⟨_, h⟩; cases h)]
  hl := fun h => by cases h
  vd := fun x h => absurd rfl h
  s64 := by show f.toNat ≤ 64; omega
  v9 := by show v.toNat ≤ 9; omega
  b1 := Nat.zero_le _
  b2 := Nat.zero_le _
theorem J.value {L : LdrS} {R : Rdr} {b : Nat} (h : J L R b) : valOS L = rval R := by
  unfold valOS rval
  rw [h.l]
  by_cases hl : rleads R = true
  · rw [if_pos hl]
    by_cases hs : R.slot ≤ 63
    · rw [if_pos ⟨hl, hs⟩, h.s, h.vals R.slot (Int.le_refl _) (by omega)]
      unfold rat
      cases best (R.slot : Int) R.told with
      | some v => rfl
      | none =>
        show Option.map _ (if (R.slot : Int) = R.slot ∧ R.has = true then _ else _) = _
        cases R.has with
        | true => rw [if_pos ⟨rfl, rfl⟩]; rfl
        | false => rw [if_neg (by rintro ⟨_, h⟩; cases h)]; rfl
    · rw [if_neg (fun hc => hs hc.2), h.s]
      rcases hm : L.vals (R.slot : Int) with _ | u
      · rfl
      · have := h.vd _ (by rw [hm]; exact fun e => by cases e)
        omega
  · rw [if_neg hl, if_neg (fun hc => hl hc.1)]
theorem rval_none {R : Rdr} (h : rval R = none) (hl : rleads R = true) (hs : R.slot ≤ 63) : best R.slot R.told = none ∧ R.has = false := by
  unfold rval at h
  rw [if_pos ⟨hl, hs⟩] at h
  cases hb : best (R.slot : Int) R.told with
  | some v => rw [hb] at h; cases h
  | none =>
    rw [hb] at h
    cases hh : R.has with
    | true => rw [hh] at h; cases h
    | false => exact ⟨rfl, rfl⟩
theorem J.offB {L : LdrS} {R : Rdr} {b : Nat} (h : J L R b) : offBS L = roffB R := by
  unfold offBS roffB
  rw [h.value, h.l, h.s]
  congr 1
  exact decide_eq_decide.2 (by have := h.s64; omega)
theorem J.offer {L : LdrS} {R : Rdr} {b : Nat} (h : J L R b) (v : ByteArray) : J (offS L v) (roff R v) (b + 1) := by
  unfold offS roff
  rw [h.offB]
  by_cases hb : roffB R = true
  · rw [if_pos hb, if_pos hb]
    have hb' := hb
    unfold roffB at hb'
    simp only [Bool.and_eq_true, decide_eq_true_eq] at hb'
    obtain ⟨⟨h1, h2⟩, h3⟩ := hb'
    have hn : rval R = none := by cases hr : rval R with
      | none => rfl
      | some u => rw [hr] at h1; cases h1
    have hbn := rval_none hn h2 h3
    refine { h with vals := ?_, hl := fun _ => h2, vd := ?_, b1 := Nat.succ_le_succ h.b1, b2 := Nat.le_trans h.b2 (Nat.le_succ _) }
    · intro x hx hx2
      show updK L.vals (L.slot : Int) (some (0, 0, v)) x = _
      rw [h.s]
      by_cases e : x = (R.slot : Int)
      · subst e
        rw [updK_same]
        unfold rat
        show _ = match best (R.slot : Int) R.told with | some v => some v | none => _
        rw [hbn.1]
        exact (if_pos ⟨rfl, rfl⟩).symm
      · rw [updK_other _ _ e, h.vals x hx hx2]
        unfold rat
        show (match best x R.told with | some v => some v | none => _) = match best x R.told with | some v => some v | none => _
        cases best x R.told with
        | some u => rfl
        | none => exact (if_neg (fun hc => e hc.1)).trans (if_neg (fun hc => e hc.1)).symm
    · intro x hx
      by_cases e : x = (L.slot : Int)
      · subst e; have := h.s; omega
      · exact h.vd x (by rwa [show ({ L with vals := updK L.vals (L.slot : Int) (some (0, 0, v)), nv := L.nv + 1 } : LdrS).vals x = L.vals x from updK_other _ _ e] at hx)
  · rw [if_neg hb, if_neg hb]
    exact h.mono (Nat.le_succ _)
theorem again_same {p : Int → Bool} {x : Int} (h : p x = true) : (fun y => decide (y = x) || p y) = p := by
  funext y
  by_cases e : y = x
  · subst e; rw [h, Bool.or_true]
  · rw [decide_eq_false e, Bool.false_or]
theorem J.taken {L : LdrS} {R : Rdr} {b : Nat} (h : J L R b) (x s : Int) : (takenS L x s).2 = (rtaken R x s).2 ∧ J (takenS L x s).1 (rtaken R x s).1 b := by
  unfold takenS rtaken
  rw [h.value]
  cases hv : rval R with
  | none => exact ⟨rfl, h⟩
  | some v =>
    have hls : rleads R = true ∧ R.slot ≤ 63 := by
      unfold rval at hv
      split at hv
      · rename_i hc; exact hc
      · cases hv
    show (if s ≠ (L.slot : Int) ∨ hearB L.tk L.voters x = false then (L, none) else _).2 = (if s ≠ (R.slot : Int) ∨ ¬ (0 ≤ x ∧ x < (R.voters : Int)) then (R, none) else _).2 ∧ J (if s ≠ (L.slot : Int) ∨ hearB L.tk L.voters x = false then (L, none) else _).1 (if s ≠ (R.slot : Int) ∨ ¬ (0 ≤ x ∧ x < (R.voters : Int)) then (R, none) else _).1 b
    by_cases h0 : s ≠ (R.slot : Int) ∨ ¬ (0 ≤ x ∧ x < (R.voters : Int))
    · have h1 : s ≠ (L.slot : Int) ∨ hearB L.tk L.voters x = false := by
        rcases h0 with h0 | h0
        · left; rw [h.s]; exact h0
        · right
          unfold hearB
          rw [h.v]
          by_cases hx : 0 ≤ x
          · rw [decide_eq_false (show ¬ x < (R.voters : Int) from fun hc => h0 ⟨hx, hc⟩), Bool.and_false]
          · rw [decide_eq_false hx, Bool.and_false, Bool.false_and]
      rw [if_pos h0, if_pos h1]
      exact ⟨rfl, h⟩
    · rw [if_neg h0]
      have hx : 0 ≤ x ∧ x < (R.voters : Int) := Classical.not_not.1 (fun hc => h0 (.inr hc))
      have hs : s = (R.slot : Int) := Classical.not_not.1 (fun hc => h0 (.inl hc))
      have hB : hearB L.tk L.voters x = !R.tk x := by
        unfold hearB
        rw [h.v, h.t, decide_eq_true hx.1, decide_eq_true hx.2, Bool.and_true, Bool.and_true]
      have hx9 : x < 9 := by have := h.v9; omega
      cases ht : R.tk x with
      | true =>
        rw [if_pos (.inr (by rw [hB, ht]; rfl)), again_same ht, if_neg (by have := h.tl; omega)]
        exact ⟨rfl, { h with }⟩
      | false =>
        have hT : hearB L.tk L.voters x = true := by rw [hB, ht]; rfl
        have hP : hearP L.tk L.voters x = fun y => decide (y = x) || R.tk y := by
          unfold hearP
          rw [if_pos hT, h.t]
        rw [if_neg (by rintro (hc | hc); exact hc (by rw [h.s]; exact hs); rw [hT] at hc; cases hc)]
        have hc := cnt_add hx.1 hx9 ht
        have hnt : L.nt + 1 = cnt (fun y => decide (y = x) || R.tk y) := by rw [h.nt, hc]
        have hvv := h.v
        by_cases hq : R.voters < 2 * cnt (fun y => decide (y = x) || R.tk y)
        · rw [if_pos hq, if_pos (show L.voters < 2 * (L.nt + 1) by rw [hvv, hnt]; exact hq)]
          refine ⟨rfl, { h with s := by show L.slot + 1 = R.slot + 1; rw [h.s], t := rfl, nt := rfl, tl := Nat.zero_le _, vals := ?_, hl := fun hc => (by cases hc), vd := ?_, s64 := by show R.slot + 1 ≤ 64; omega, b1 := by have := h.b1; show L.nv - 1 ≤ b; omega, l := h.l, p := h.p }⟩
          · intro y hy hy2
            have hy' : ((R.slot + 1 : Nat) : Int) ≤ y := hy
            show updK L.vals (L.slot : Int) none y = _
            rw [h.s, updK_other _ _ (by omega), h.vals y (by omega) hy2]
            unfold rat
            show (match best y R.told with | some v => some v | none => _) = match best y R.told with | some v => some v | none => _
            cases best y R.told with
            | some u => rfl
            | none => exact (if_neg (fun hc => by have := hc.1; omega)).trans (if_neg (fun hc => by cases hc.2)).symm
          · intro y hy
            by_cases e : y = (L.slot : Int)
            · subst e; exact absurd (updK_same L.vals _ none) hy
            · have hy' : updK L.vals (L.slot : Int) none y ≠ none := hy
              rw [updK_other _ _ e] at hy'
              exact h.vd y hy'
        · rw [if_neg hq, if_neg (show ¬ L.voters < 2 * (L.nt + 1) by rw [hvv, hnt]; exact hq)]
          exact ⟨rfl, { h with t := hP, nt := hnt, tl := Nat.le_of_not_lt hq, l := h.l, p := h.p }⟩
theorem told_vals (L : LdrS) (v : VtS) {x : Int} (hx : (L.slot : Int) ≤ x) (h64 : x < 64) : (toldS L v).vals x = bstep x (L.vals x) v := by
  unfold toldS
  by_cases h0 : v.1 < (L.slot : Int) ∨ 64 ≤ v.1
  · rw [if_pos h0]
    have hne : v.1 ≠ x := by omega
    cases hL : L.vals x with
    | none => exact (if_neg hne).symm
    | some u => exact (if_neg (fun hc => hne hc.1)).symm
  · rw [if_neg h0]
    by_cases e : v.1 = x
    · subst e
      cases hL : L.vals v.1 with
      | none =>
        show updK L.vals v.1 (some v) v.1 = _
        rw [updK_same]
        exact (if_pos rfl).symm
      | some u =>
        show (if u.2.1 < v.2.1 then ({ L with vals := updK L.vals v.1 (some v) } : LdrS) else L).vals v.1 = if v.1 = v.1 ∧ u.2.1 < v.2.1 then some v else some u
        by_cases hlt : u.2.1 < v.2.1
        · rw [if_pos hlt, if_pos ⟨rfl, hlt⟩]
          exact updK_same _ _ _
        · rw [if_neg hlt, if_neg (fun hc => hlt hc.2)]
          exact hL
    · have hr : bstep x (L.vals x) v = L.vals x := by
        cases hL : L.vals x with
        | none => exact if_neg e
        | some u => exact if_neg (fun hc => e hc.1)
      rw [hr]
      split
      · exact updK_other _ _ (fun hc => e hc.symm)
      · split
        · exact updK_other _ _ (fun hc => e hc.symm)
        · rfl
theorem tolds_vals (vs : List VtS) (L : LdrS) {x : Int} (hx : (L.slot : Int) ≤ x) (h64 : x < 64) : (vs.foldl toldS L).vals x = vs.foldl (bstep x) (L.vals x) := by
  induction vs generalizing L with
  | nil => rfl
  | cons v t ih =>
    rw [List.foldl_cons, List.foldl_cons, ih (toldS L v) (by rw [(toldS_same L v).2.1]; exact hx), told_vals L v hx h64]
theorem told_vd (L : LdrS) (v : VtS) (h : ∀ x, L.vals x ≠ none → 0 ≤ x ∧ x < 64) : ∀ x, (toldS L v).vals x ≠ none → 0 ≤ x ∧ x < 64 := by
  intro x hx
  unfold toldS at hx
  by_cases h0 : v.1 < (L.slot : Int) ∨ 64 ≤ v.1
  · rw [if_pos h0] at hx; exact h x hx
  · rw [if_neg h0] at hx
    by_cases e : x = v.1
    · omega
    · apply h x
      intro hn
      apply hx
      split
      · exact (updK_other _ _ e).trans hn
      · split
        · exact (updK_other _ _ e).trans hn
        · exact hn
theorem tolds_vd (vs : List VtS) (L : LdrS) (h : ∀ x, L.vals x ≠ none → 0 ≤ x ∧ x < 64) : ∀ x, (vs.foldl toldS L).vals x ≠ none → 0 ≤ x ∧ x < 64 := by
  induction vs generalizing L with
  | nil => exact h
  | cons v t ih => exact ih _ (told_vd L v h)
theorem rat_none (R : Rdr) (x : Int) (h : R.has = false) : rat R x = best x R.told := by
  unfold rat
  cases best x R.told with
  | some v => rfl
  | none => exact if_neg (fun hc => by rw [h] at hc; cases hc.2)
theorem J.prom {L : LdrS} {R : Rdr} {b : Nat} (h : J L R b) (x : Int) (vs : List VtS) : J (promS L x vs) (rprom R x vs) (b + vs.length) := by
  unfold promS rprom
  by_cases hc : rleads R = true ∨ hearB R.pr R.voters x = false
  · rw [if_pos hc]
    have hc' : L.leads = true ∨ hearB L.pr L.voters x = false := by
      rcases hc with hc | hc
      · left; rw [h.l]; exact hc
      · by_cases hl : L.leads = true
        · exact .inl hl
        · right; rw [(h.p (by simpa using hl)).1, h.v]; exact hc
    rw [if_pos hc']
    exact h.mono (Nat.le_add_right _ _)
  · have hl0 : rleads R = false := by
      cases hr : rleads R with
      | true => exact absurd (.inl hr) hc
      | false => rfl
    have hl1 : L.leads = false := by rw [h.l]; exact hl0
    have hp := h.p hl1
    have hT : hearB R.pr R.voters x = true := by
      cases hr : hearB R.pr R.voters x with
      | false => exact absurd (.inr hr) hc
      | true => rfl
    have hT' : hearB L.pr L.voters x = true := by rw [hp.1, h.v]; exact hT
    have hP : hearP L.pr L.voters x = fun y => decide (y = x) || R.pr y := by
      unfold hearP
      rw [if_pos hT', hp.1]
    have hx : R.pr x = false ∧ 0 ≤ x ∧ x < (R.voters : Int) := by
      unfold hearB at hT
      simp only [Bool.and_eq_true, Bool.not_eq_true', decide_eq_true_eq] at hT
      exact ⟨hT.1.1, hT.1.2, hT.2⟩
    have hcn := cnt_add hx.2.1 (by have := h.v9; omega) hx.1
    have hh : R.has = false := by
      cases hr : R.has with
      | true => rw [h.hl hr] at hl0; cases hl0
      | false => rfl
    rw [if_neg hc, if_neg (by rw [hl1, hT']; rintro (h | h) <;> cases h), hP, hp.2, ← hcn]
    obtain ⟨L1, hL1⟩ : ∃ L1, L1 = ({ L with pr := fun y => decide (y = x) || R.pr y, np := cnt (fun y => decide (y = x) || R.pr y) } : LdrS) := ⟨_, rfl⟩
    have hsame := toldsS_same vs L1
    have hv := fun y hy h64 => tolds_vals vs L1 (x := y) hy h64
    have hd := tolds_vd vs L1 (by rw [hL1]; exact h.vd)
    rw [← hL1]
    have base : ∀ y : Int, (R.slot : Int) ≤ y → y < 64 → (vs.foldl toldS L1).vals y = rat { R with pr := fun y => decide (y = x) || R.pr y, told := R.told ++ vs } y := by
      intro y hy h64
      rw [hv y (by rw [hL1]; show (L.slot : Int) ≤ y; rw [h.s]; exact hy) h64, rat_none _ _ (by exact hh)]
      show _ = best y (R.told ++ vs)
      unfold best
      rw [List.foldl_append]
      congr 1
      rw [hL1]
      show L.vals y = _
      rw [h.vals y hy h64, rat_none _ _ hh]
      rfl
    have hrl : rleads { R with pr := fun y => decide (y = x) || R.pr y, told := R.told ++ vs } = decide (R.voters < 2 * cnt (fun y => decide (y = x) || R.pr y)) := rfl
    have hnv : (vs.foldl toldS L1).nv ≤ b + vs.length := by
      have := hsame.2.2.2.2.2.2.2
      rw [hL1] at this ⊢
      have := h.b1
      show _ ≤ _
      have h2 : ({ L with pr := fun y => decide (y = x) || R.pr y, np := cnt (fun y => decide (y = x) || R.pr y) } : LdrS).nv = L.nv := rfl
      omega
    have htl : (R.told ++ vs).length ≤ b + vs.length := by rw [List.length_append]; have := h.b2; omega
    have e1 : (vs.foldl toldS L1).voters = R.voters := hsame.1.trans (by rw [hL1]; exact h.v)
    have e2 : (vs.foldl toldS L1).slot = R.slot := hsame.2.1.trans (by rw [hL1]; exact h.s)
    have e3 : (vs.foldl toldS L1).leads = false := hsame.2.2.1.trans (by rw [hL1]; exact hl1)
    have e4 : (vs.foldl toldS L1).pr = fun y => decide (y = x) || R.pr y := hsame.2.2.2.1.trans (by rw [hL1])
    have e5 : (vs.foldl toldS L1).np = cnt (fun y => decide (y = x) || R.pr y) := hsame.2.2.2.2.1.trans (by rw [hL1])
    have e6 : (vs.foldl toldS L1).tk = R.tk := hsame.2.2.2.2.2.1.trans (by rw [hL1]; exact h.t)
    have e7 : (vs.foldl toldS L1).nt = cnt R.tk := hsame.2.2.2.2.2.2.1.trans (by rw [hL1]; exact h.nt)
    by_cases hq : L.voters < 2 * cnt (fun y => decide (y = x) || R.pr y)
    · rw [if_pos hq]
      have hq' : R.voters < 2 * cnt (fun y => decide (y = x) || R.pr y) := by rw [← h.v]; exact hq
      exact { v := e1, s := e2, l := by rw [hrl, decide_eq_true hq'], p := fun hc => (by cases hc), n9 := Nat.zero_le _, t := e6, nt := e7, tl := h.tl, vals := base, hl := fun hc => absurd (hh.symm.trans hc) (by decide), vd := hd, s64 := h.s64, v9 := h.v9, b1 := hnv, b2 := htl }
    · rw [if_neg hq]
      have hq' : ¬ R.voters < 2 * cnt (fun y => decide (y = x) || R.pr y) := by rw [← h.v]; exact hq
      exact { v := e1, s := e2, l := by rw [hrl, decide_eq_false hq', e3], p := fun _ => ⟨e4, e5⟩, n9 := by rw [e5]; exact cnt_le _, t := e6, nt := e7, tl := h.tl, vals := base, hl := fun hc => absurd (hh.symm.trans hc) (by decide), vd := hd, s64 := h.s64, v9 := h.v9, b1 := hnv, b2 := htl }
end Go.Proofs.Ytimfinpifngdiaa
