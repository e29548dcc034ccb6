/- The law's Same: two lists of records that are one. Condition: lengths. -/
import Derived.Test.YthnaggmafbhdmaaDoorLRecs
namespace Go.Proofs.YthnaggmafbhdmaaDoor
open Go.RowKit Go.Maps

set_option maxRecDepth 100000 in
set_option maxHeartbeats 1000000 in
theorem same_any (w : World) (A : Option Addr) (c : Nat) (ps : List Prt) (A' : Option Addr) (c' : Nat) (qs : List Prt) (n : Nat) (hn : n = ps.length) (hn' : n = qs.length) (hr : Rd w A (ps.map sl)) (hr' : Rd w A' (qs.map sl)) (hp : ∀ p ∈ ps, Part w p) (hq : ∀ q ∈ qs, Part w q) (he : ps.map (·.2.2) = qs.map (·.2.2)) (hm : n ≤ 100000000) :
    Calls Tryd.prog 14 #[.slice A n c, .slice A' n c'] w fun e w' => e = .returned (.bool true) ∧ Fr NoBlk w w' := by
  have HR := Lib.hid hr
  have HR' := Lib.hid hr'
  have HP := Lib.hid hp
  have HQ := Lib.hid hq
  have HE := Lib.hid he
  have HN := Lib.hid hn
  have HN' := Lib.hid hn'
  have HF0 : Hid (Fr NoBlk w w) := Fr.refl _ _
  clear hr hr' hp hq he hn hn'
  go_enter Tryd.func14, Tryd.ntmps14
  go_wp2_with fail
  go_loopw [5] (fun s wr => ∃ k : Nat, k ≤ n ∧ s = .int .i64 k ∧ Hid (Fr NoBlk w wr)) (fun s _ => n - (intOf s).toNat)
  case atStart => exact ⟨0, Nat.zero_le _, rfl, HF0⟩
  case round =>
    clear HF0
    obtain ⟨k, hk, rfl, HF⟩ := hrel
    by_cases hlt : k < n
    · obtain ⟨p, hp⟩ : ∃ p, ps[k]? = some p := ⟨_, List.getElem?_eq_getElem (by rw [← HN.out]; exact hlt)⟩
      obtain ⟨q, hq⟩ : ∃ q, qs[k]? = some q := ⟨_, List.getElem?_eq_getElem (by rw [← HN'.out]; exact hlt)⟩
      have hpq : p.2.2 = q.2.2 := by
        have := congrArg (fun l => l[k]?) HE.out
        simp only [List.getElem?_map, hp, hq, Option.map_some] at this
        injection this
      obtain ⟨b, o, rfl, h1⟩ := (HR.out.nofr HF.out).at_ (k := k) (v := sl p) (by rw [List.getElem?_map, hp]; rfl)
      obtain ⟨b', o', rfl, h2⟩ := (HR'.out.nofr HF.out).at_ (k := k) (v := sl q) (by rw [List.getElem?_map, hq]; rfl)
      have hp1 := HP.out p (List.mem_of_getElem? hp)
      have hq1 := HQ.out q (List.mem_of_getElem? hq)
      obtain ⟨Ap, cp, lp⟩ := p
      obtain ⟨Aq, cq, lq⟩ := q
      dsimp only at hpq
      subst hpq
      unfold sl at h1 h2
      dsimp only at h1 h2
      have s1 : ∀ j, (convert 34 9 (.slice Ap lp.length cp)).run Tryd.prog (wr.drewN j) = .ok (.string (bstr lp)) (wr.drewN j) := fun j => run_str _ _ _ _ Tryd.underlying34 Tryd.underlying5 Tryd.underlying9 Ap cp lp lp.length rfl ((hp1.1.nofr HF.out).nofr ((Fr.refl _ _).drewN j))
      have s2 : ∀ j, (convert 34 9 (.slice Aq lp.length cq)).run Tryd.prog (wr.drewN j) = .ok (.string (bstr lp)) (wr.drewN j) := fun j => run_str _ _ _ _ Tryd.underlying34 Tryd.underlying5 Tryd.underlying9 Aq cq lp lp.length rfl ((hq1.1.nofr HF.out).nofr ((Fr.refl _ _).drewN j))
      clear hp hq hp1 hq1
      generalize lp.length = ll at *
      generalize bstr lp = bl at *
      go_wp2_with fail
      go_quiet (fail)
      go_wp2_with fail
      go_roundw
      case rel => exact ⟨k + 1, by omega, by go_num, HF.out.drewN _⟩
      case measure => simp [intOf]; omega
    · go_wp2_with fail
      go_ret
      exact ⟨rfl, HF.out⟩
end Go.Proofs.YthnaggmafbhdmaaDoor
