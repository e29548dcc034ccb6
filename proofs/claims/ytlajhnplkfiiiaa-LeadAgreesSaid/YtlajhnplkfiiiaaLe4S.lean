/- The program's Leader at string: Promised, Leads, Slot. Conditions: numbers of their types; fewer entries than a length can be. -/
import Derived.Test.YtlajhnplkfiiiaaLe3S

namespace Go.Proofs.Ytlajhnplkfiiiaa
open Go.RowKit Go.Maps

theorem leadsS_any (w : World) (B g bp bt bv : Nat) (L : LdrS) (h : LdS w B g bp bt bv L) : Calls Try.prog 22 #[.pointer (some ⟨g, 0, none⟩)] w fun e w' => e = .returned (.bool L.leads) ∧ w = w' := by
  have c2 := (ldc_cellsS h).2.2.1
  clear h
  go_enter Try.func22, Try.ntmps22
  go_wp2_with fail
  go_ret
  exact ⟨rfl, rfl⟩
theorem slotS_any (w : World) (B g bp bt bv : Nat) (L : LdrS) (h : LdS w B g bp bt bv L) : Calls Try.prog 24 #[.pointer (some ⟨g, 0, none⟩)] w fun e w' => e = .returned (.int .i64 (L.slot : Int)) ∧ w = w' := by
  have c2 := (ldc_cellsS h).2.1
  clear h
  go_enter Try.func24, Try.ntmps24
  go_wp2_with fail
  go_ret
  exact ⟨rfl, rfl⟩

/-- votes as cells. -/
def vtsS (vs : List VtS) : List Value := vs.flatMap fun v => (vtcS v).toList
theorem vtsS_len (xs : List VtS) : (vtsS xs).length = xs.length * 3 := by
  induction xs with
  | nil => rfl
  | cons x t ih =>
    show ((vtcS x).toList ++ vtsS t).length = _
    rw [List.length_append, ih, List.length_cons]
    show 3 + _ = _
    omega
theorem vtsS_get (xs : List VtS) (k : Nat) (x : VtS) (h : xs[k]? = some x) (j : Nat) (hj : j < 3) : (vtsS xs)[k * 3 + j]? = (vtcS x).toList[j]? := by
  induction xs generalizing k with
  | nil => cases h
  | cons y t ih =>
    cases k with
    | zero =>
      injection h with h
      subst h
      show ((vtcS y).toList ++ vtsS t)[_]? = _
      rw [List.getElem?_append_left (by show _ < 3; omega), Nat.zero_mul, Nat.zero_add]
    | succ k =>
      show ((vtcS y).toList ++ vtsS t)[_]? = _
      rw [List.getElem?_append_right (by show 3 ≤ _; omega), show (k + 1) * 3 + j - (vtcS y).toList.length = k * 3 + j from by show _ - 3 = _; omega]
      exact ih k h
theorem Rd.vtS {w : World} {A : Option Addr} {xs : List VtS} (h : Rd w A (vtsS xs)) {k : Nat} {x : VtS} (hx : xs[k]? = some x) :
    ∃ b o, A = some ⟨b, o, none⟩ ∧ w.cell? ⟨b, o + k * 3, none⟩ = some (.int .i64 x.1) ∧ w.cell? ⟨b, o + k * 3 + 1, none⟩ = some (.int .u64 (x.2.1 : Int)) ∧ w.cell? ⟨b, o + k * 3 + 2, none⟩ = some (evS x.2.2) := by
  have hk := (List.getElem?_eq_some_iff.1 hx).1
  obtain ⟨b, o, rfl, hc⟩ := h (by rw [vtsS_len]; omega)
  exact ⟨b, o, rfl, hc _ _ ((vtsS_get xs k x hx 0 (by omega)).trans rfl), hc _ _ ((vtsS_get xs k x hx 1 (by omega)).trans rfl), hc _ _ ((vtsS_get xs k x hx 2 (by omega)).trans rfl)⟩

theorem toldS_same (L : LdrS) (v : VtS) : (toldS L v).voters = L.voters ∧ (toldS L v).slot = L.slot ∧ (toldS L v).leads = L.leads ∧ (toldS L v).pr = L.pr ∧ (toldS L v).np = L.np ∧ (toldS L v).tk = L.tk ∧ (toldS L v).nt = L.nt ∧ (toldS L v).nv ≤ L.nv + 1 := by
  unfold toldS
  split
  · exact ⟨rfl, rfl, rfl, rfl, rfl, rfl, rfl, Nat.le_succ _⟩
  · split
    · exact ⟨rfl, rfl, rfl, rfl, rfl, rfl, rfl, Nat.le_refl _⟩
    · split
      · exact ⟨rfl, rfl, rfl, rfl, rfl, rfl, rfl, Nat.le_succ _⟩
      · exact ⟨rfl, rfl, rfl, rfl, rfl, rfl, rfl, Nat.le_succ _⟩
theorem toldsS_same (vs : List VtS) (L : LdrS) : (vs.foldl toldS L).voters = L.voters ∧ (vs.foldl toldS L).slot = L.slot ∧ (vs.foldl toldS L).leads = L.leads ∧ (vs.foldl toldS L).pr = L.pr ∧ (vs.foldl toldS L).np = L.np ∧ (vs.foldl toldS L).tk = L.tk ∧ (vs.foldl toldS L).nt = L.nt ∧ (vs.foldl toldS L).nv ≤ L.nv + vs.length := by
  induction vs generalizing L with
  | nil => exact ⟨rfl, rfl, rfl, rfl, rfl, rfl, rfl, Nat.le_refl _⟩
  | cons v t ih =>
    have h := toldS_same L v
    have k := ih (toldS L v)
    rw [List.foldl_cons, List.length_cons]
    exact ⟨k.1.trans h.1, k.2.1.trans h.2.1, k.2.2.1.trans h.2.2.1, k.2.2.2.1.trans h.2.2.2.1, k.2.2.2.2.1.trans h.2.2.2.2.1, k.2.2.2.2.2.1.trans h.2.2.2.2.2.1, k.2.2.2.2.2.2.1.trans h.2.2.2.2.2.2.1, by have := k.2.2.2.2.2.2.2; have := h.2.2.2.2.2.2.2; omega⟩

/-- behind a voter's promise. -/
def promS (L : LdrS) (x : Int) (vs : List VtS) : LdrS :=
  if L.leads = true ∨ hearB L.pr L.voters x = false then L
  else if L.voters < 2 * (L.np + 1) then { vs.foldl toldS { L with pr := hearP L.pr L.voters x, np := L.np + 1 } with leads := true, pr := fun _ => false, np := 0 }
  else vs.foldl toldS { L with pr := hearP L.pr L.voters x, np := L.np + 1 }
/-- the blocks that a call of Promised may turn. -/
def PrBS (g bp bv : Nat) (j : Nat) : Prop := j = g ∨ j = bp ∨ j = bv
set_option maxRecDepth 100000 in
set_option maxHeartbeats 4000000 in
theorem promS_any (w : World) (B g bp bt bv : Nat) (L : LdrS) (h : LdS w B g bp bt bv L) (hn : L.np < 1000) (x : Int) (hx : wf64 x) (A : Option Addr) (c : Nat) (vs : List VtS) (hnv : L.nv + vs.length < 100000) (hr : Rd w A (vtsS vs)) (hw : ∀ v ∈ vs, wf64 v.1) (hA : ∀ k, ablk A k → ¬ PrBS g bp bv k) :
    Calls Try.prog 18 #[.pointer (some ⟨g, 0, none⟩), .int .i64 x, .slice A vs.length c] w fun e w' => e = .returned (.tuple #[]) ∧ LdS w' B g bp bt bv (promS L x vs) ∧ Fr (PrBS g bp bv) w w' := by
  have HL := Lib.hid h
  have HR := Lib.hid hr
  have HW := Lib.hid hw
  have HA := Lib.hid hA
  have HNV := Lib.hid hnv
  have hbk := h.bk
  unfold ldcS at hbk
  have HH := Lib.hid (hearS_any w g L.voters _ _ _ _ _ hbk bp L.np L.pr h.kp (by omega) x hx)
  have HP0 : Hid ((L.leads = true ∨ hearB L.pr L.voters x = false) → promS L x vs = L) := fun hh => by unfold promS; rw [if_pos hh]
  obtain ⟨L1, hL1⟩ : ∃ L1, L1 = ({ L with pr := hearP L.pr L.voters x, np := L.np + 1 } : LdrS) := ⟨_, rfl⟩
  have HP1 : Hid (L.leads = false → hearB L.pr L.voters x = true → L.voters < 2 * (L.np + 1) → promS L x vs = { vs.foldl toldS L1 with leads := true, pr := fun _ => false, np := 0 }) := fun h1 h2 h3 => by
    unfold promS; rw [if_neg (by rw [h1, h2]; intro hc; rcases hc with hc | hc <;> cases hc), if_pos h3, hL1]
  have HP2 : Hid (L.leads = false → hearB L.pr L.voters x = true → ¬ (L.voters < 2 * (L.np + 1)) → promS L x vs = vs.foldl toldS L1) := fun h1 h2 h3 => by
    unfold promS; rw [if_neg (by rw [h1, h2]; intro hc; rcases hc with hc | hc <;> cases hc), if_neg h3, hL1]
  have HSP : Hid (∀ w', Km Try.prog 3 w' bp (L.np + 1) (setF (hearP L.pr L.voters x)) → Fr (fun j => j = bp) w w' → LdS w' B g bp bt bv L1) := fun w' hk hf => by rw [hL1]; exact h.setP hk hf
  have HQ : Hid (L1.voters = L.voters ∧ L1.np = L.np + 1 ∧ L1.nv = L.nv) := by rw [hL1]; exact ⟨rfl, rfl, rfl⟩
  clear hL1
  have g2 := (ldc_cellsS h).2.2.1
  have g3 := (ldc_cellsS h).2.2.2.1
  have HVL := Lib.hid hnv
  generalize promS L x vs = L' at *
  obtain ⟨ld, hld⟩ : ∃ ld, ld = L.leads := ⟨_, rfl⟩
  rw [← hld] at g2 HP0 HP1 HP2
  have HLD := Lib.hid hld
  clear h hr hw hA hbk hx hld
  cases ld with
  | true =>
    have HZ := Lib.hid (HP0.out (.inl rfl))
    go_enter Try.func18, Try.ntmps18
    go_wp2_with fail
    refine bodyPost_ret (results_none rfl _ _ _) rfl ?_
    exact ⟨rfl, by rw [HZ.out]; exact HL.out, Fr.refl _ _⟩
  | false =>
    replace HP1 := Lib.hid (HP1.out rfl)
    replace HP2 := Lib.hid (HP2.out rfl)
    obtain ⟨fb, hfb⟩ : ∃ fb, fb = hearB L.pr L.voters x := ⟨_, rfl⟩
    rw [← hfb] at HH HP0 HP1 HP2
    have HFB := Lib.hid hfb
    clear hfb
    go_enter Try.func18, Try.ntmps18
    go_wp2_with fail
    refine HH.out.mono ?_
    clear HH
    rintro e w2 ⟨rfl, hk2, hf2⟩
    have HF2 := Lib.hid (hf2.mono (D := PrBS g bp bv) fun _ _ h => .inr (.inl h))
    cases fb with
    | false =>
      have HZ := Lib.hid (HP0.out (.inr rfl))
      have HL2 : Hid (LdS w2 B g bp bt bv L) := by
        show LdS _ _ _ _ _ _ _
        rw [show hearP L.pr L.voters x = L.pr by unfold hearP; rw [if_neg (by rw [← HFB.out]; decide)]] at hk2
        exact HL.out.setP hk2 hf2
      clear hk2 hf2
      go_wp2_with fail
      refine bodyPost_ret (results_none rfl _ _ _) rfl ?_
      exact ⟨rfl, by rw [HZ.out]; exact HL2.out, HF2.out⟩
    | true =>
      simp only [if_true] at hk2
      have HL2 := Lib.hid (HSP.out _ hk2 hf2)
      replace HP1 := Lib.hid (HP1.out rfl)
      replace HP2 := Lib.hid (HP2.out rfl)
      clear hk2 hf2 HP0
      go_wp2_with fail
      go_loopw [24] (fun s wr => ∃ i : Nat, i ≤ vs.length ∧ s = .int .i64 i ∧ Hid (LdS wr B g bp bt bv ((vs.take i).foldl toldS L1) ∧ Fr (PrBS g bp bv) w wr)) (fun s _ => vs.length - (intOf s).toNat)
      case atStart => exact ⟨0, Nat.zero_le _, rfl, HL2.out, HF2.out⟩
      case round =>
        clear HL2 HF2
        obtain ⟨k, hk, rfl, HE⟩ := hrel
        have HLR := Lib.hid HE.out.1
        have HFR := Lib.hid HE.out.2
        clear HE
        by_cases hlt : k < vs.length
        · obtain ⟨v, hv⟩ : ∃ v, vs[k]? = some v := ⟨_, List.getElem?_eq_getElem hlt⟩
          obtain ⟨b, o, rfl, d0, d1, d2⟩ := (HR.out.fr HFR.out HA.out).vtS hv
          have HFA : Hid (Fr NoBlk wr (wr.alloc (.cells (vtcS v) 63))) := (Fr.refl _ _).alloc _
          have HTD := Lib.hid (toldS_any _ B g bp bt bv _ (HLR.out.nofr HFA.out) (by have := (toldsS_same (vs.take k) L1).2.2.2.2.2.2.2; have := HQ.out.2.2; rw [List.length_take] at *; omega) v (HW.out v (List.mem_of_getElem? hv)))
          have HNX : Hid (toldS ((vs.take k).foldl toldS L1) v = (vs.take (k + 1)).foldl toldS L1) := by
            show _ = _
            rw [List.take_add_one, hv, Option.toList_some, List.foldl_append]
            rfl
          rw [HNX.out] at HTD
          clear hv HNX
          obtain ⟨va, vb, vu⟩ := v
          unfold vtcS at HTD HFA
          unfold evS at d2 HTD HFA
          dsimp only at d0 d1 d2 HTD HFA
          go_wp2_with fail
          refine HTD.out.mono ?_
          clear HTD
          rintro e w5 ⟨rfl, hl5, hf5⟩
          have HZ : Hid (LdS w5 B g bp bt bv ((vs.take (k + 1)).foldl toldS L1) ∧ Fr (PrBS g bp bv) w w5) := ⟨hl5, (HFR.out.trans (HFA.out.mono fun _ _ h => h.elim)).trans (hf5.mono fun _ _ h => .inr (.inr h))⟩
          clear hl5 hf5
          go_wp2_with fail
          go_roundw
          case rel => exact ⟨k + 1, by omega, by go_num, HZ⟩
          case measure => simp [intOf]; omega
        · have e : vs.take k = vs := List.take_of_length_le (by omega)
          rw [e] at HLR
          have hsame := toldsS_same vs L1
          obtain ⟨L2, hL2⟩ : ∃ L2, L2 = vs.foldl toldS L1 := ⟨_, rfl⟩
          rw [← hL2] at HLR hsame HP1 HP2
          have hvt : L2.voters = L.voters := hsame.1.trans HQ.out.1
          have hnp : L2.np = L.np + 1 := hsame.2.2.2.2.1.trans HQ.out.2.1
          have HSL : Hid (L2.slot ≤ 64) := HLR.out.sl
          have hbk := HLR.out.bk
          unfold ldcS at hbk
          have HE := Lib.hid (enoughS_any wr g L2.voters _ _ _ _ _ hbk bp L2.np _ HLR.out.kp (by omega))
          rw [hvt, hnp] at HE
          obtain ⟨en, hen⟩ : ∃ en, en = decide (L.voters < 2 * (L.np + 1)) := ⟨_, rfl⟩
          rw [← hen] at HE
          have HZF : Hid (en = false → L' = L2) := fun h => HP2.out (of_decide_eq_false (hen ▸ h))
          have HZT : Hid (en = true → L' = { L2 with leads := true, pr := fun _ => false, np := 0 }) := fun h => HP1.out (of_decide_eq_true (hen ▸ h))
          have g3 := (ldc_cellsS HLR.out).2.2.2.1
          clear hen hbk hL2 hsame hvt hnp e HP1 HP2
          go_wp2_with fail
          refine HE.out.mono ?_
          clear HE
          rintro e w3 ⟨rfl, hf3⟩
          have HL3 := Lib.hid (HLR.out.nofr hf3)
          have HF3 := Lib.hid (HFR.out.trans (hf3.mono (D := PrBS g bp bv) fun _ _ h => h.elim))
          clear hf3 g3 g2
          cases en with
          | false =>
            have HZ := Lib.hid (HZF.out rfl)
            clear HZF HZT
            go_wp2_with fail
            go_end0
            exact ⟨rfl, by rw [HZ.out]; exact HL3.out, HF3.out⟩
          | true =>
            have HZ := Lib.hid (HZT.out rfl)
            clear HZF HZT
            have c2 : w3.cell? ⟨g, 2, none⟩ = some (.bool L2.leads) := (ldc_cellsS HL3.out).2.2.1
            have f2 : w3.frozen? ⟨g, 2, none⟩ = false := HL3.out.bk.free 2
            have hL4 : LdS (w3.setCell ⟨g, 2, none⟩ (.bool true)) B g bp bt bv { L2 with leads := true } := HL3.out.setC 2 _ rfl rfl rfl rfl rfl rfl rfl rfl HSL.out
            have c3 := (ldc_cellsS hL4).2.2.2.1
            obtain ⟨w6, hclr, hk6, hf6⟩ := hL4.kp.clear_ Try.underlying72 0
            rw [← setF_noneS] at hk6
            have HL6 := Lib.hid (hL4.setP hk6 hf6)
            have HF6 : Hid (Fr (PrBS g bp bv) w w6) := (HF3.out.trans ((Fr.refl (PrBS g bp bv) w3).setCell (p := ⟨g, 2, none⟩) (fun _ => .inl rfl) _)).trans (hf6.mono fun _ _ h => .inr (.inl h))
            clear hL4 hk6 hf6
            go_wp2_with fail
            go_end0
            exact ⟨rfl, by rw [HZ.out]; exact HL6.out, HF6.out⟩
end Go.Proofs.Ytlajhnplkfiiiaa
