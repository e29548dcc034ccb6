/- The disk's change, whatever is asked of a file and done to it; Sync; Read; Limit; New. Condition: lengths. -/
import Derived.Test.YtafiokabnlmgpaaGreatDoorAppend
import Derived.Shelf.Abstract
namespace Go.Proofs.YtafiokabnlmgpaaGreatDoor
open Go.RowKit Go.Maps

def ActPost (w : World) (B gd : Nat) (m : Dsk) (g : List PF → List PF) (e : Ending) (w' : World) : Prop :=
  ∃ m', e = .returned (.tuple #[]) ∧ m'.pd = { m.pd with files := g m.pd.files } ∧ DkIn w' B gd m' ∧ Fr (Blks gd m) w w' ∧ ∀ k, Blks gd m' k → Blks gd m k ∨ w.heap.size ≤ k

theorem pspend_files (p : PD) : (pspend p).files = p.files := by
  unfold pspend
  split
  · rfl
  · split <;> rfl
theorem spent_files (m : Dsk) : (spent m).files = m.files := by
  unfold spent
  split
  · rfl
  · split <;> rfl

set_option maxRecDepth 100000 in
set_option maxHeartbeats 2000000 in
theorem change_any (w : World) (B gd : Nat) (m : Dsk) (h : DkIn w B gd m) (k : Bs) (hk : k.length ≤ maxLen) (gr : Nat) (lr : Array Value) (ga : Nat) (la : Array Value) (rt : PF → Bool) (act : PF → List PF → List PF)
    (er : ∀ args w, (callFunc gr args).run Tryz.prog w = .ok (.enter gr args) w) (ea : ∀ args w, (callFunc ga args).run Tryz.prog w = .ok (.enter ga args) w)
    (hR : ∀ f ∈ m.files, f.name = k → Calls Tryz.prog gr (#[.pointer (some ⟨f.blk, 0, none⟩)] ++ lr) w fun e w' => e = .returned (.bool (rt f.pf)) ∧ Fr NoBlk w w')
    (hA : ∀ f ∈ m.files, f.name = k → rt f.pf = true → ∀ W, DkIn W B gd (spent m) → Fr (fun j => j = gd) w W → Calls Tryz.prog ga (#[.pointer (some ⟨f.blk, 0, none⟩)] ++ la) W (ActPost W B gd (spent m) (act f.pf))) :
    Calls Tryz.prog 126 #[.pointer (some ⟨gd, 0, none⟩), .string (bstr k), .func (.func gr) #[] lr, .func (.func ga) #[] la] w (DkPost w B gd m (pChange m.pd k rt act)) := by
  obtain ⟨c0, c1, c2, c3⟩ := h.cell
  have hlook := h.mp.look k hk
  rw [look_find] at hlook
  have HD := Lib.hid h
  have hR := Lib.hid hR
  have hA := Lib.hid hA
  clear h hk
  obtain ⟨r, hrr⟩ : ∃ r, r = pChange m.pd k rt act := ⟨_, rfl⟩
  rw [← hrr]
  have HP := Lib.hid hrr
  clear hrr
  cases hdn : m.down with
  | true =>
    rw [hdn] at c3
    have HQ : Hid (r = (m.pd, 3)) := by show _ = _; rw [HP.out]; unfold pChange; rw [if_pos (show m.pd.down = true from hdn)]
    clear hdn
    go_enter Tryz.func126, Tryz.ntmps126
    go_wp2_with fail
    go_ret
    rw [HQ.out]
    exact DkPost.same HD.out (Fr.refl _ _)
  | false =>
  rw [hdn] at c3
  have HP := Lib.hid (HP.out.trans (by unfold pChange; rw [if_neg (show ¬ m.pd.down = true by rw [show m.pd.down = m.down from rfl, hdn]; simp)]))
  clear hdn
  cases ho : m.files.find? (fun f => decide (f.name = k)) with
  | none =>
    rw [ho] at hlook
    replace hlook : (Instr.lookup 103 (.map (some m.bm)) (.string (bstr k)) false).run Tryz.prog w = .ok (.pointer none) w := hlook
    have hpf : pfind m.pd.files k = none := by show pfind (m.files.map Fil.pf) k = none; rw [pfind_map, ho]; rfl
    have HQ : Hid (r = (m.pd, 60)) := by show _ = _; rw [HP.out, hpf]
    clear ho hpf
    go_enter Tryz.func126, Tryz.ntmps126
    go_wp2_with fail
    go_ret
    rw [HQ.out]
    exact DkPost.same HD.out (Fr.refl _ _)
  | some f =>
    rw [ho] at hlook
    obtain ⟨hmem, hnm⟩ := find_mem ho
    replace hlook : (Instr.lookup 103 (.map (some m.bm)) (.string (bstr k)) false).run Tryz.prog w = .ok (.pointer (some ⟨f.blk, 0, none⟩)) w := hlook
    have hpf : pfind m.pd.files k = some f.pf := by show pfind (m.files.map Fil.pf) k = _; rw [pfind_map, ho]; rfl
    have HP : Hid (r = if rt f.pf = false then (m.pd, 1) else if m.pd.left = 0 then (pspend m.pd, 3) else ({ pspend m.pd with files := act f.pf m.pd.files }, 0)) := by show _ = _; rw [HP.out, hpf]
    have KR := Lib.hid (hR.out f hmem hnm)
    have KA := Lib.hid (hA.out f hmem hnm)
    clear ho hnm hmem hpf
    generalize hrt : rt f.pf = rb at KR
    cases rb with
    | false =>
      have HQ : Hid (r = (m.pd, 1)) := by show _ = _; rw [HP.out, if_pos hrt]
      clear hrt
      go_enter Tryz.func126, Tryz.ntmps126
      go_wp2_with fail
      refine KR.out.mono ?_
      rintro e w1 ⟨rfl, hf1⟩
      have HF1 := Lib.hid hf1
      clear hf1
      go_wp2_with fail
      go_ret
      rw [HQ.out]
      exact DkPost.same HD.out HF1.out
    | true =>
      have HP := Lib.hid (HP.out.trans (if_neg (by rw [hrt]; simp)))
      replace KA := Lib.hid (KA.out hrt)
      clear hrt
      go_enter Tryz.func126, Tryz.ntmps126
      go_wp2_with fail
      refine KR.out.mono ?_
      rintro e w1 ⟨rfl, hf1⟩
      have HF1 := Lib.hid hf1
      clear hf1
      go_wp2_with fail
      refine (spend_any w1 B gd m (HD.out.nofr HF1.out)).mono ?_
      rintro e w2 ⟨rfl, hd2, hf2⟩
      have HD2 := Lib.hid hd2
      have HF2 : Hid (Fr (fun j => j = gd) w w2) := (HF1.out.mono (D := fun j => j = gd) fun _ _ h => h.elim).trans hf2
      clear hd2 hf2
      by_cases h0 : m.left = 0
      · have he : spendE m = 3 := by unfold spendE; rw [if_pos h0]
        have HQ : Hid (r = (pspend m.pd, 3)) := by show _ = _; rw [HP.out, if_pos (show m.pd.left = 0 from h0)]
        rw [he]
        clear he h0
        go_wp2_with fail
        go_ret
        rw [HQ.out]
        refine ⟨_, rfl, spent_pd m, HD2.out, HF2.out.mono fun _ _ e => .inl e, fun j hj => .inl ((spent_blks gd m j).1 hj)⟩
      · have he : spendE m = 0 := by unfold spendE; rw [if_neg h0]
        have HQ : Hid (r = ({ pspend m.pd with files := act f.pf m.pd.files }, 0)) := by show _ = _; rw [HP.out, if_neg (show ¬ m.pd.left = 0 from h0)]
        rw [he]
        clear he h0
        go_wp2_with fail
        refine (KA.out w2 HD2.out HF2.out).mono ?_
        rintro e w3 ⟨m3, rfl, hp3, hd3, hf3, hb3⟩
        have HQ3 : Hid (DkPost w B gd m r (.returned (.int .i64 0)) w3) := by
          rw [HQ.out]
          refine ⟨m3, rfl, ?_, hd3, ?_, fun j hj => ?_⟩
          · rw [hp3, spent_pd, pspend_files]
          · exact (HF2.out.mono (D := Blks gd m) fun _ _ e => .inl e).trans (hf3.mono fun j _ h => (spent_blks gd m j).1 h)
          · rcases hb3 j hj with h | h
            · exact .inl ((spent_blks gd m j).1 h)
            · exact .inr (by have := HF2.out.size; omega)
        clear hp3 hd3 hf3 hb3
        go_wp2_with fail
        go_ret
        exact HQ3.out
end Go.Proofs.YtafiokabnlmgpaaGreatDoor
