/- The contracts of slices.Grow and slices.Concat at bytes, and of the program's frames. Conditions: lengths are short; the table holds its numbers where a sum is reckoned. -/
import Derived.Test.YtafiokabnlmgpaaGreatDoorSum
import Derived.Test.YtafiokabnlmgpaaGreatDoorPen2
import Derived.Lib.AppendZeros
namespace Go.Proofs.YtafiokabnlmgpaaGreatDoor
open Go.RowKit

set_option maxRecDepth 100000 in
set_option maxHeartbeats 400000 in
theorem grow_any (w : World) (n : Nat) (hn : n ≤ 1000000) :
    Calls Tryz.prog 193 #[.slice none 0 0, .int .i64 n] w fun e w' => ∃ v', e = .returned v' ∧ w'.ownsRow w.heap.size 5 1 v' 0 [] ∧ Fr NoBlk w w' := by
  obtain ⟨i0, hi, hz0, hz1, hz2⟩ := info_parts byteInfo
  by_cases h0 : n = 0
  · subst h0
    go_enter Tryz.func193, Tryz.ntmps193
    go_wp2_with fail
    go_ret
    exact ⟨_, rfl, World.ownsRow_nil _ _ _ _, Fr.refl _ _⟩
  · have hpos : 0 < n := by omega
    have HZ := Lib.hid (Lib.run_append_nil_zeros (P := Tryz.prog) w 55 3 55 5 i0 (.int .u8 0) .i64 .i64 Tryz.underlying55 Tryz.underlying3 hi hz0 n hpos (by omega) (by omega) (by rw [hz2]; omega))
    obtain ⟨cp, hcp⟩ : ∃ cp, cp = grownCap w n 0 5 := ⟨_, rfl⟩
    have hge : n ≤ cp := by rw [hcp]; exact grownCap_ge _ _ _ _
    have hle : cp ≤ maxLen := by rw [hcp]; exact grownCap_le_maxLen _ _ _ _ (by unfold maxLen; omega)
    rw [← hcp] at HZ
    obtain ⟨cs, hcs⟩ : ∃ cs : Array Value, cs = Builtin.zeroCells (Value.int .u8 0).cells n ++ Builtin.zeroCells (Value.int .u8 0).cells (cp - n) := ⟨_, rfl⟩
    rw [← hcs] at HZ
    have hsz : cs.size = cp * 1 := by
      rw [hcs, Array.size_append, size_zeroCells, size_zeroCells]
      show n * 1 + (cp - n) * 1 = cp * 1
      omega
    have HO := Lib.hid (World.ownsRow_made (base := w.heap.size) (e := 5) (size := 1) w.drew cs cp (Nat.le_refl _) hle hsz)
    have hcap : (0 : Int) ≤ (cp : Int) := by omega
    clear hcp hcs hle hsz h0
    go_enter Tryz.func193, Tryz.ntmps193
    go_wp2_with (at_builtin; refine Lib.wpList_append_run _ rfl _ _ 55 3 rfl _ _ rfl rfl _ _ HZ.out ?_)
    go_ret
    exact ⟨_, rfl, HO.out, ((Fr.refl _ _).alloc _).drew⟩

/-- a part that is put to others: where it lies, its room, its bytes. -/
abbrev Prt := Option Addr × Nat × List UInt8
def sl (p : Prt) : Value := .slice p.1 p.2.2.length p.2.1
def allOf (ps : List Prt) : List UInt8 := ps.flatMap fun p => p.2.2
def Part (w : World) (p : Prt) : Prop := Rd w p.1 (cb p.2.2) ∧ (p.1 = none → p.2.1 = 0)
theorem allOf_step (ps : List Prt) (k : Nat) (p : Prt) (h : ps[k]? = some p) : allOf (ps.take (k + 1)) = allOf (ps.take k) ++ p.2.2 := by
  unfold allOf
  obtain ⟨hk, rfl⟩ := List.getElem?_eq_some_iff.1 h
  rw [List.take_succ_eq_append_getElem hk, List.flatMap_append]
  simp
theorem allOf_le (ps : List Prt) (k : Nat) : (allOf (ps.take k)).length ≤ (allOf ps).length := by
  conv => rhs; rw [← List.take_append_drop k ps]
  unfold allOf
  rw [List.flatMap_append, List.length_append]
  omega

set_option maxRecDepth 100000 in
set_option maxHeartbeats 400000 in
theorem concat_any (w : World) (A : Option Addr) (n c : Nat) (ps : List Prt) (hn : n = ps.length) (hr : Rd w A (ps.map sl)) (hp : ∀ p ∈ ps, Part w p) (hk : ps.length ≤ 1000) (hl : (allOf ps).length ≤ 1000000) :
    Calls Tryz.prog 178 #[.slice A n c] w fun e w' => ∃ v', e = .returned v' ∧ New w w' v' (allOf ps) := by
  subst hn
  obtain ⟨i0, hi, hz0, hz1, hz2⟩ := info_parts byteInfo
  have HR := Lib.hid hr
  have HP := Lib.hid hp
  have HL := Lib.hid hl
  have HK := Lib.hid hk
  clear hr hp hl
  go_enter Tryz.func178, Tryz.ntmps178
  go_wp2_with fail
  go_loop [3, 11] (fun s i => ∃ k : Nat, k ≤ ps.length ∧ i = .int .i64 k ∧ s = .int .i64 ((allOf (ps.take k)).length : Nat)) (fun _ i => ps.length - (intOf i).toNat)
  case atStart => exact ⟨0, Nat.zero_le _, rfl, rfl⟩
  case round =>
    obtain ⟨k, hk, rfl, rfl⟩ := hrel
    by_cases hlt : k < ps.length
    · obtain ⟨p, hp⟩ : ∃ p, ps[k]? = some p := ⟨_, List.getElem?_eq_getElem hlt⟩
      obtain ⟨b, o, rfl, hcell⟩ := HR.out.at_ (k := k) (v := sl p) (by rw [List.getElem?_map, hp]; rfl)
      have HS := Lib.hid (congrArg List.length (allOf_step ps k p hp))
      have HB := Lib.hid (allOf_le ps (k + 1))
      obtain ⟨Ap, cp, lp⟩ := p
      unfold sl at hcell
      have hb : (allOf (ps.take k)).length + lp.length ≤ 1000000 := by
        have h1 := HS.out; have h2 := HB.out; have h3 := HL.out
        rw [List.length_append] at h1
        show _ + (Ap, cp, lp).2.2.length ≤ _
        omega
      rw [List.length_append] at HS
      generalize (allOf (ps.take k)).length = s at *
      clear hp
      dsimp only at hcell
      go_wp2
      go_round
      case rel => exact ⟨k + 1, by omega, by go_num, by rw [HS.out]; go_num⟩
      case measure => simp [intOf]; omega
    · have HT := Lib.hid (show ps.take k = ps from List.take_of_length_le (by omega))
      rw [HT.out]
      have HG := Lib.hid (grow_any w (allOf ps).length HL.out)
      go_wp2_with fail
      refine HG.out.mono ?_
      rintro e w1 ⟨v1, rfl, ho1, hf1⟩
      have HN1 : Hid (New w w1 v1 (allOf (ps.take 0))) := ⟨by simpa [allOf, cb] using ho1, hf1⟩
      clear ho1 hf1 HG
      go_wp2_with fail
      go_loopw [6, 27] (fun v i wr => ∃ j : Nat, j ≤ ps.length ∧ i = .int .i64 j ∧ Hid (New w wr v (allOf (ps.take j)))) (fun _ i _ => ps.length - (intOf i).toNat)
      case atStart => exact ⟨0, Nat.zero_le _, rfl, HN1⟩
      case round =>
        obtain ⟨j, hj, rfl, HN⟩ := hrel
        obtain ⟨Av, cv, rfl, _, _⟩ := own_form HN.out.own
        by_cases hlt2 : j < ps.length
        · obtain ⟨p, hp⟩ : ∃ p, ps[j]? = some p := ⟨_, List.getElem?_eq_getElem hlt2⟩
          obtain ⟨b, o, rfl, hcell⟩ := (HR.out.nofr HN.out.fr).at_ (k := j) (v := sl p) (by rw [List.getElem?_map, hp]; rfl)
          have HS := Lib.hid (allOf_step ps j p hp)
          have HB := Lib.hid (allOf_le ps (j + 1))
          have HQ := Lib.hid (HP.out p (List.mem_of_getElem? hp))
          obtain ⟨Ap, cp, lp⟩ := p
          unfold sl at hcell
          have HM : Hid ((allOf (ps.take j)).length + lp.length ≤ 1000000) := by
            have h1 := congrArg List.length HS.out; have h2 := HB.out; have h3 := HL.out
            rw [List.length_append] at h1
            show _ + (Ap, cp, lp).2.2.length ≤ _
            omega
          have HR2 : Hid (Rd wr Ap (cb lp)) := HQ.out.1.nofr HN.out.fr
          have HA2 : Hid (Ap = none → cp = 0) := HQ.out.2
          clear hp HQ
          dsimp only at hcell HS
          go_wp2_with (at_builtin; refine wpList_app rfl _ _ 55 rfl w.heap.size 5 i0 (.int .u8 0) 1 Tryz.underlying55 hi hz0 hz1 hz2 rfl _ _ _ rfl HN.out.own Ap cp lp.length (cb lp) rfl (cb_length lp) HR2.out (cb_one _) HA2.out ?c3 ?c4 HN.out.fr.size ?_)
          case c3 => have := HM.out; unfold maxLen; omega
          case c4 => have := HM.out; omega
          intro v' w2 hown' hgrow _ hblk
          have HX : Hid (New w w2 v' (allOf (ps.take (j + 1)))) := ⟨by rw [HS.out, List.length_append, cb_append]; exact hown', HN.out.fr.grown hgrow (fun k hk hlt => by
            exfalso
            rcases HN.out.own.2 with ⟨h1, _⟩ | ⟨g, cap, cur, h1, h2, _⟩
            · rw [h1] at hk; cases hk
            · rw [h1] at hk
              simp [Value.ownBlock] at hk
              omega)⟩
          clear hown' hgrow hblk
          go_wp2
          go_roundw
          case rel => exact ⟨j + 1, by omega, by go_num, HX⟩
          case measure => simp [intOf]; omega
        · have HT2 := Lib.hid (show ps.take j = ps from List.take_of_length_le (by omega))
          rw [HT2.out] at HN
          go_wp2_with fail
          go_ret
          refine ⟨.slice Av (allOf (ps.take j)).length cv, rfl, ?_⟩
          rw [HT2.out]
          exact HN.out

end Go.Proofs.YtafiokabnlmgpaaGreatDoor
