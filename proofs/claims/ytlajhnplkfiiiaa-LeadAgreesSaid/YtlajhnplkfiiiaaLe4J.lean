/- The program's Leader at int: Promised, Leads, Slot. Conditions: numbers of their types; fewer entries than a length can be. -/
import Derived.Test.YtlajhnplkfiiiaaLe3I
import Derived.Test.YtlajhnplkfiiiaaLe4S
namespace Go.Proofs.Ytlajhnplkfiiiaa
open Go.RowKit Go.Maps

theorem slotI_any (w : World) (B g bp bt bv : Nat) (L : LdrI) (h : LdI w B g bp bt bv L) : Calls Try.prog 11 #[.pointer (some ⟨g, 0, none⟩)] w fun e w' => e = .returned (.int .i64 (L.slot : Int)) ∧ w = w' := by
  have c2 := (ldc_cellsI h).2.1
  clear h
  go_enter Try.func11, Try.ntmps11
  go_wp2_with fail
  go_ret
  exact ⟨rfl, rfl⟩

/-- votes as cells. -/
def vtsI (vs : List VtI) : List Value := vs.flatMap fun v => (vtcI v).toList
theorem vtsI_len (xs : List VtI) : (vtsI xs).length = xs.length * 3 := by
  induction xs with
  | nil => rfl
  | cons x t ih =>
    show ((vtcI x).toList ++ vtsI t).length = _
    rw [List.length_append, ih, List.length_cons]
    show 3 + _ = _
    omega
theorem vtsI_get (xs : List VtI) (k : Nat) (x : VtI) (h : xs[k]? = some x) (j : Nat) (hj : j < 3) : (vtsI xs)[k * 3 + j]? = (vtcI x).toList[j]? := by
  induction xs generalizing k with
  | nil => cases h
  | cons y t ih =>
    cases k with
    | zero =>
      injection h with h
      subst h
      show ((vtcI y).toList ++ vtsI t)[_]? = _
      rw [List.getElem?_append_left (by show _ < 3; omega), Nat.zero_mul, Nat.zero_add]
    | succ k =>
      show ((vtcI y).toList ++ vtsI t)[_]? = _
      rw [List.getElem?_append_right (by show 3 ≤ _; omega), show (k + 1) * 3 + j - (vtcI y).toList.length = k * 3 + j from by show _ - 3 = _; omega]
      exact ih k h
theorem Rd.vtI {w : World} {A : Option Addr} {xs : List VtI} (h : Rd w A (vtsI xs)) {k : Nat} {x : VtI} (hx : xs[k]? = some x) :
    ∃ b o, A = some ⟨b, o, none⟩ ∧ w.cell? ⟨b, o + k * 3, none⟩ = some (.int .i64 x.1) ∧ w.cell? ⟨b, o + k * 3 + 1, none⟩ = some (.int .u64 (x.2.1 : Int)) ∧ w.cell? ⟨b, o + k * 3 + 2, none⟩ = some (evI x.2.2) := by
  have hk := (List.getElem?_eq_some_iff.1 hx).1
  obtain ⟨b, o, rfl, hc⟩ := h (by rw [vtsI_len]; omega)
  exact ⟨b, o, rfl, hc _ _ ((vtsI_get xs k x hx 0 (by omega)).trans rfl), hc _ _ ((vtsI_get xs k x hx 1 (by omega)).trans rfl), hc _ _ ((vtsI_get xs k x hx 2 (by omega)).trans rfl)⟩

theorem toldI_same (L : LdrI) (v : VtI) : (toldI L v).voters = L.voters ∧ (toldI L v).slot = L.slot ∧ (toldI L v).leads = L.leads ∧ (toldI L v).pr = L.pr ∧ (toldI L v).np = L.np ∧ (toldI L v).tk = L.tk ∧ (toldI L v).nt = L.nt ∧ (toldI L v).nv ≤ L.nv + 1 := by
  unfold toldI
  split
  · exact ⟨rfl, rfl, rfl, rfl, rfl, rfl, rfl, Nat.le_succ _⟩
  · split
    · exact ⟨rfl, rfl, rfl, rfl, rfl, rfl, rfl, Nat.le_refl _⟩
    · split
      · exact ⟨rfl, rfl, rfl, rfl, rfl, rfl, rfl, Nat.le_succ _⟩
      · exact ⟨rfl, rfl, rfl, rfl, rfl, rfl, rfl, Nat.le_succ _⟩
theorem toldsI_same (vs : List VtI) (L : LdrI) : (vs.foldl toldI L).voters = L.voters ∧ (vs.foldl toldI L).slot = L.slot ∧ (vs.foldl toldI L).leads = L.leads ∧ (vs.foldl toldI L).pr = L.pr ∧ (vs.foldl toldI L).np = L.np ∧ (vs.foldl toldI L).tk = L.tk ∧ (vs.foldl toldI L).nt = L.nt ∧ (vs.foldl toldI L).nv ≤ L.nv + vs.length := by
  induction vs generalizing L with
  | nil => exact ⟨rfl, rfl, rfl, rfl, rfl, rfl, rfl, Nat.le_refl _⟩
  | cons v t ih =>
    have h := toldI_same L v
    have k := ih (toldI L v)
    rw [List.foldl_cons, List.length_cons]
    exact ⟨k.1.trans h.1, k.2.1.trans h.2.1, k.2.2.1.trans h.2.2.1, k.2.2.2.1.trans h.2.2.2.1, k.2.2.2.2.1.trans h.2.2.2.2.1, k.2.2.2.2.2.1.trans h.2.2.2.2.2.1, k.2.2.2.2.2.2.1.trans h.2.2.2.2.2.2.1, by have := k.2.2.2.2.2.2.2; have := h.2.2.2.2.2.2.2; omega⟩

/-- behind a voter's promise. -/
def promI (L : LdrI) (x : Int) (vs : List VtI) : LdrI :=
  if L.leads = true ∨ hearB L.pr L.voters x = false then L
  else if L.voters < 2 * (L.np + 1) then { vs.foldl toldI { L with pr := hearP L.pr L.voters x, np := L.np + 1 } with leads := true, pr := fun _ => false, np := 0 }
  else vs.foldl toldI { L with pr := hearP L.pr L.voters x, np := L.np + 1 }
/-- the blocks that a call of Promised may turn. -/
def PrBI (g bp bv : Nat) (j : Nat) : Prop := j = g ∨ j = bp ∨ j = bv
set_option maxRecDepth 100000 in
set_option maxHeartbeats 4000000 in
theorem promI_any (w : World) (B g bp bt bv : Nat) (L : LdrI) (h : LdI w B g bp bt bv L) (hn : L.np < 1000) (x : Int) (hx : wf64 x) (A : Option Addr) (c : Nat) (vs : List VtI) (hnv : L.nv + vs.length < 100000) (hr : Rd w A (vtsI vs)) (hw : ∀ v ∈ vs, wf64 v.1) (hA : ∀ k, ablk A k → ¬ PrBI g bp bv k) :
    Calls Try.prog 9 #[.pointer (some ⟨g, 0, none⟩), .int .i64 x, .slice A vs.length c] w fun e w' => e = .returned (.tuple #[]) ∧ LdI w' B g bp bt bv (promI L x vs) ∧ Fr (PrBI g bp bv) w w' := by
  have HL := Lib.hid h
  have HR := Lib.hid hr
  have HW := Lib.hid hw
  have HA := Lib.hid hA
  have HNV := Lib.hid hnv
  have hbk := h.bk
  unfold ldcI at hbk
  have HH := Lib.hid (hearI_any w g L.voters _ _ _ _ _ hbk bp L.np L.pr h.kp (by omega) x hx)
  have HP0 : Hid ((L.leads = true ∨ hearB L.pr L.voters x = false) → promI L x vs = L) := fun hh => by unfold promI; rw [if_pos hh]
  obtain ⟨L1, hL1⟩ : ∃ L1, L1 = ({ L with pr := hearP L.pr L.voters x, np := L.np + 1 } : LdrI) := ⟨_, rfl⟩
  have HP1 : Hid (L.leads = false → hearB L.pr L.voters x = true → L.voters < 2 * (L.np + 1) → promI L x vs = { vs.foldl toldI L1 with leads := true, pr := fun _ => false, np := 0 }) := fun h1 h2 h3 => by
    unfold promI; rw [if_neg (by rw [h1, h2]; intro hc; rcases hc with hc | hc <;> cases hc), if_pos h3, hL1]
  have HP2 : Hid (L.leads = false → hearB L.pr L.voters x = true → ¬ (L.voters < 2 * (L.np + 1)) → promI L x vs = vs.foldl toldI L1) := fun h1 h2 h3 => by
    unfold promI; rw [if_neg (by rw [h1, h2]; intro hc; rcases hc with hc | hc <;> cases hc), if_neg h3, hL1]
  have HSP : Hid (∀ w', Km Try.prog 3 w' bp (L.np + 1) (setF (hearP L.pr L.voters x)) → Fr (fun j => j = bp) w w' → LdI w' B g bp bt bv L1) := fun w' hk hf => by rw [hL1]; exact h.setP hk hf
  have HQ : Hid (L1.voters = L.voters ∧ L1.np = L.np + 1 ∧ L1.nv = L.nv) := by rw [hL1]; exact ⟨rfl, rfl, rfl⟩
  clear hL1
  have g2 := (ldc_cellsI h).2.2.1
  have g3 := (ldc_cellsI h).2.2.2.1
  have HVL := Lib.hid hnv
  generalize promI L x vs = L' at *
  obtain ⟨ld, hld⟩ : ∃ ld, ld = L.leads := ⟨_, rfl⟩
  rw [← hld] at g2 HP0 HP1 HP2
  have HLD := Lib.hid hld
  clear h hr hw hA hbk hx hld
  cases ld with
  | true =>
    have HZ := Lib.hid (HP0.out (.inl rfl))
    go_enter Try.func9, Try.ntmps9
    go_wp2_with fail
    refine bodyPost_ret (results_none rfl _ _ _) rfl ?_
    exact ⟨rfl, by rw [HZ.out]; exact HL.out, Fr.refl _ _⟩
  | false =>
    replace HP1 := Lib.hid (HP1.out rfl)
    replace HP2 := Lib.hid (HP2.out rfl)
    obtain ⟨fb, hfb⟩ : ∃ fb, fb = hearB L.pr L.voters x := ⟨_, rfl⟩
    rw [← hfb] at HH HP0 HP1 HP2
    have HFB := Lib.hid hfb
    clear hfb
    go_enter Try.func9, Try.ntmps9
    go_wp2_with fail
    refine HH.out.mono ?_
    clear HH
    rintro e w2 ⟨rfl, hk2, hf2⟩
    have HF2 := Lib.hid (hf2.mono (D := PrBI g bp bv) fun _ _ h => .inr (.inl h))
    cases fb with
    | false =>
      have HZ := Lib.hid (HP0.out (.inr rfl))
      have HL2 : Hid (LdI w2 B g bp bt bv L) := by
        show LdI _ _ _ _ _ _ _
        rw [show hearP L.pr L.voters x = L.pr by unfold hearP; rw [if_neg (by rw [← HFB.out]; decide)]] at hk2
        exact HL.out.setP hk2 hf2
      clear hk2 hf2
      go_wp2_with fail
      refine bodyPost_ret (results_none rfl _ _ _) rfl ?_
      exact ⟨rfl, by rw [HZ.out]; exact HL2.out, HF2.out⟩
    | true =>
      simp only [if_true] at hk2
      have HL2 := Lib.hid (HSP.out _ hk2 hf2)
      replace HP1 := Lib.hid (HP1.out rfl)
      replace HP2 := Lib.hid (HP2.out rfl)
      clear hk2 hf2 HP0
      go_wp2_with fail
      go_loopw [24] (fun s wr => ∃ i : Nat, i ≤ vs.length ∧ s = .int .i64 i ∧ Hid (LdI wr B g bp bt bv ((vs.take i).foldl toldI L1) ∧ Fr (PrBI g bp bv) w wr)) (fun s _ => vs.length - (intOf s).toNat)
      case atStart => exact ⟨0, Nat.zero_le _, rfl, HL2.out, HF2.out⟩
      case round =>
        clear HL2 HF2
        obtain ⟨k, hk, rfl, HE⟩ := hrel
        have HLR := Lib.hid HE.out.1
        have HFR := Lib.hid HE.out.2
        clear HE
        by_cases hlt : k < vs.length
        · obtain ⟨v, hv⟩ : ∃ v, vs[k]? = some v := ⟨_, List.getElem?_eq_getElem hlt⟩
          obtain ⟨b, o, rfl, d0, d1, d2⟩ := (HR.out.fr HFR.out HA.out).vtI hv
          have HFA : Hid (Fr NoBlk wr (wr.alloc (.cells (vtcI v) 46))) := (Fr.refl _ _).alloc _
          have HTD := Lib.hid (toldI_any _ B g bp bt bv _ (HLR.out.nofr HFA.out) (by have := (toldsI_same (vs.take k) L1).2.2.2.2.2.2.2; have := HQ.out.2.2; rw [List.length_take] at *; omega) v (HW.out v (List.mem_of_getElem? hv)))
          have HNX : Hid (toldI ((vs.take k).foldl toldI L1) v = (vs.take (k + 1)).foldl toldI L1) := by
            show _ = _
            rw [List.take_add_one, hv, Option.toList_some, List.foldl_append]
            rfl
          rw [HNX.out] at HTD
          clear hv HNX
          obtain ⟨va, vb, vu⟩ := v
          unfold vtcI at HTD HFA
          unfold evI at d2 HTD HFA
          dsimp only at d0 d1 d2 HTD HFA
          go_wp2_with fail
          refine HTD.out.mono ?_
          clear HTD
          rintro e w5 ⟨rfl, hl5, hf5⟩
          have HZ : Hid (LdI w5 B g bp bt bv ((vs.take (k + 1)).foldl toldI L1) ∧ Fr (PrBI g bp bv) w w5) := ⟨hl5, (HFR.out.trans (HFA.out.mono fun _ _ h => h.elim)).trans (hf5.mono fun _ _ h => .inr (.inr h))⟩
          clear hl5 hf5
          go_wp2_with fail
          go_roundw
          case rel => exact ⟨k + 1, by omega, by go_num, HZ⟩
          case measure => simp [intOf]; omega
        · have e : vs.take k = vs := List.take_of_length_le (by omega)
          rw [e] at HLR
          have hsame := toldsI_same vs L1
          obtain ⟨L2, hL2⟩ : ∃ L2, L2 = vs.foldl toldI L1 := ⟨_, rfl⟩
          rw [← hL2] at HLR hsame HP1 HP2
          have hvt : L2.voters = L.voters := hsame.1.trans HQ.out.1
          have hnp : L2.np = L.np + 1 := hsame.2.2.2.2.1.trans HQ.out.2.1
          have HSL : Hid (L2.slot ≤ 64) := HLR.out.sl
          have hbk := HLR.out.bk
          unfold ldcI at hbk
          have HE := Lib.hid (enoughI_any wr g L2.voters _ _ _ _ _ hbk bp L2.np _ HLR.out.kp (by omega))
          rw [hvt, hnp] at HE
          obtain ⟨en, hen⟩ : ∃ en, en = decide (L.voters < 2 * (L.np + 1)) := ⟨_, rfl⟩
          rw [← hen] at HE
          have HZF : Hid (en = false → L' = L2) := fun h => HP2.out (of_decide_eq_false (hen ▸ h))
          have HZT : Hid (en = true → L' = { L2 with leads := true, pr := fun _ => false, np := 0 }) := fun h => HP1.out (of_decide_eq_true (hen ▸ h))
          have g3 := (ldc_cellsI HLR.out).2.2.2.1
          clear hen hbk hL2 hsame hvt hnp e HP1 HP2
          go_wp2_with fail
          refine HE.out.mono ?_
          clear HE
          rintro e w3 ⟨rfl, hf3⟩
          have HL3 := Lib.hid (HLR.out.nofr hf3)
          have HF3 := Lib.hid (HFR.out.trans (hf3.mono (D := PrBI g bp bv) fun _ _ h => h.elim))
          clear hf3 g3 g2
          cases en with
          | false =>
            have HZ := Lib.hid (HZF.out rfl)
            clear HZF HZT
            go_wp2_with fail
            go_end0
            exact ⟨rfl, by rw [HZ.out]; exact HL3.out, HF3.out⟩
          | true =>
            have HZ := Lib.hid (HZT.out rfl)
            clear HZF HZT
            have c2 : w3.cell? ⟨g, 2, none⟩ = some (.bool L2.leads) := (ldc_cellsI HL3.out).2.2.1
            have f2 : w3.frozen? ⟨g, 2, none⟩ = false := HL3.out.bk.free 2
            have hL4 : LdI (w3.setCell ⟨g, 2, none⟩ (.bool true)) B g bp bt bv { L2 with leads := true } := HL3.out.setC 2 _ rfl rfl rfl rfl rfl rfl rfl rfl HSL.out
            have c3 := (ldc_cellsI hL4).2.2.2.1
            obtain ⟨w6, hclr, hk6, hf6⟩ := hL4.kp.clear_ Try.underlying72 0
            rw [← setF_noneI] at hk6
            have HL6 := Lib.hid (hL4.setP hk6 hf6)
            have HF6 : Hid (Fr (PrBI g bp bv) w w6) := (HF3.out.trans ((Fr.refl (PrBI g bp bv) w3).setCell (p := ⟨g, 2, none⟩) (fun _ => .inl rfl) _)).trans (hf6.mono fun _ _ h => .inr (.inl h))
            clear hL4 hk6 hf6
            go_wp2_with fail
            go_end0
            exact ⟨rfl, by rw [HZ.out]; exact HL6.out, HF6.out⟩
end Go.Proofs.Ytlajhnplkfiiiaa
