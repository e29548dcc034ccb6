/- Unpack: the body of frames, or refused. Conditions: lengths; the table holds its numbers. -/
import Derived.Test.YtafiokabnlmgpaaGreatDoorPack2
namespace Go.Proofs.YtafiokabnlmgpaaGreatDoor
open Go.RowKit

def UnpkPost (w w' : World) (e : Ending) (u : Bs × Nat) : Prop := ∃ v', e = .returned (.tuple #[v', .int .i64 u.2]) ∧ New w w' v' u.1
/-- how far the data are read: the records R; the body is all but the first. -/
structure UnAt (w wr : World) (l : Bs) (k : Nat) (v : Value) (R : List Bs) : Prop where
  own : wr.ownsRow w.heap.size 5 1 v R.tail.flatten.length (cb R.tail.flatten)
  fr : Fr NoBlk w wr
  rd : parse l = (R ++ (parse (l.drop k)).1, k + (parse (l.drop k)).2)
  le : k ≤ l.length
  few : R.tail.flatten.length ≤ k
  z : k = 0 ↔ R = []
theorem UnAt.bad {w wr : World} {l : Bs} {k : Nat} {v : Value} {R : List Bs} (h : UnAt w wr l k v R) (h0 : parse (l.drop k) = ([], 0)) (hk : k < l.length) : unpk l = ([], 61) := by
  unfold unpk
  rw [h.rd, h0]
  rw [if_neg (by dsimp only; omega)]
theorem UnAt.fin {w wr : World} {l : Bs} {v : Value} {R : List Bs} (h : UnAt w wr l l.length v R) : unpk l = if pk R.tail.flatten = l then (R.tail.flatten, 0) else ([], 61) := by
  have e : parse l = (R, l.length) := by
    rw [h.rd, List.drop_length, parse_nil, List.append_nil]
    rfl
  unfold unpk
  rw [e]
  by_cases hp : pk R.tail.flatten = l
  · rw [if_pos ⟨rfl, hp⟩, if_pos hp]
  · rw [if_neg (fun x => hp x.2), if_neg hp]
theorem UnAt.next {w wr w3 : World} {l : Bs} {k : Nat} {v v' : Value} {R : List Bs} (h : UnAt w wr l k v R) {ub : Bs} {us : Nat} (hu : unfr (l.drop k) = (ub, us, 0)) (hf : Fr NoBlk w w3)
    (ho : w3.ownsRow w.heap.size 5 1 v' (R ++ [ub]).tail.flatten.length (cb (R ++ [ub]).tail.flatten)) (hl : (R ++ [ub]).tail.flatten.length ≤ k + us) : UnAt w w3 l (k + us) v' (R ++ [ub]) := by
  have ho1 := unfr_ok (l.drop k) (by rw [hu])
  rw [hu, List.length_drop] at ho1
  dsimp only at ho1
  have hp := parse_ok (l.drop k) (by rw [hu])
  rw [hu] at hp
  dsimp only at hp
  have hle := h.le
  refine ⟨ho, hf, ?_, by omega, hl, ⟨fun e => by omega, fun e => by simp at e⟩⟩
  rw [h.rd, hp, List.drop_drop, List.append_assoc]
  show (R ++ (ub :: _), k + (us + _)) = (R ++ ([ub] ++ _), k + us + _)
  rw [Nat.add_assoc]
  rfl
theorem flat_snoc (R : List Bs) (u : Bs) (h : R ≠ []) : (R ++ [u]).tail.flatten = R.tail.flatten ++ u := by
  cases R with
  | nil => exact absurd rfl h
  | cons r t => simp

set_option maxRecDepth 100000 in
set_option maxHeartbeats 4000000 in
theorem unpack_any (w : World) (ht : Tab w) (A : Option Addr) (c : Nat) (l : Bs) (hr : Part w (A, c, l)) (hc : l.length ≤ c) (hl : l.length ≤ 10000000) :
    Calls Tryz.prog 98 #[.slice A l.length c] w fun e w' => UnpkPost w w' e (unpk l) := by
  obtain ⟨i0, hi, hz0, hz1, hz2⟩ := info_parts byteInfo
  have HT := Lib.hid ht
  have HR := Lib.hid hr
  have HRR := Lib.hid hr.1
  have HU0 : Hid (UnAt w w l 0 (.slice none 0 0) []) := ⟨World.ownsRow_nil _ _ _ _, Fr.refl _ _, by simp, Nat.zero_le _, Nat.zero_le _, by simp⟩
  have HF0 : Hid (Fr NoBlk w w) := Fr.refl _ _
  clear ht hr
  dsimp only at HRR
  obtain ⟨T, hT⟩ : ∃ T, T = l.length := ⟨_, rfl⟩
  rw [← hT] at hc hl ⊢
  have HTL := Lib.hid hT
  clear hT
  go_enter Tryz.func98, Tryz.ntmps98
  go_wp2_with fail
  go_loopw [4, 5] (fun v z wr => ∃ (k : Nat) (R : List Bs), k ≤ T ∧ z = .int .i64 k ∧ Hid (UnAt w wr l k v R)) (fun _ z _ => T - (intOf z).toNat)
  case atStart => exact ⟨0, [], Nat.zero_le _, rfl, HU0⟩
  case round =>
    clear HU0
    obtain ⟨k, R, hk, rfl, HU⟩ := hrel
    obtain ⟨Av, cv, rfl, hcv, hAv⟩ := own_form HU.out.own
    have HCV := Lib.hid hcv
    have HAV := Lib.hid hAv
    clear hcv hAv
    obtain ⟨nb, hnb⟩ : ∃ nb, nb = R.tail.flatten.length := ⟨_, rfl⟩
    rw [← hnb]
    have HNB := Lib.hid hnb
    have hnbk : nb ≤ 10000000 := by have := HU.out.few; omega
    clear hnb
    by_cases hlt : k < T
    · obtain ⟨b, o, rfl, _⟩ := HRR.out (by rw [cb_length, ← HTL.out]; omega)
      have f2 : (k : Int) ≤ (T : Int) := by omega
      have f3 : (T : Int) ≤ (c : Int) := by omega
      have HRD : Hid (Rd wr (some ⟨b, o + k, none⟩) (cb (l.drop k))) := by
        have h := (HRR.out.nofr HU.out.fr).cut (k := k) (cap := c) (by rw [cb_length, ← HTL.out]; exact hk) (by rw [cb_length, ← HTL.out]; omega)
        rw [if_neg (by omega)] at h
        rw [cb_drop]
        intro hx
        obtain ⟨b', o', e, hcell⟩ := h hx
        refine ⟨b, o + k, rfl, fun j v hv => ?_⟩
        have e2 : (⟨b, o + k, none⟩ : Addr) = ⟨b', o', none⟩ := by
          have e3 : (some (Addr.add ⟨b, o, none⟩ k)) = some (⟨b', o', none⟩ : Addr) := e
          injection e3 with e3
          rw [← e3]
          unfold Addr.add
          split <;> simp_all
        injection e2 with ea eb
        subst ea eb
        exact hcell j v hv
      have HX := Lib.hid (unframe_any wr (HT.out.fr HU.out.fr fun h => h) (some ⟨b, o + k, none⟩) (T - k) (c - k) (l.drop k) (by rw [List.length_drop, ← HTL.out]) HRD.out (fun h => by cases h) (by rw [List.length_drop, ← HTL.out]; omega) (by omega))
      obtain ⟨u, hu⟩ : ∃ u, u = unfr (l.drop k) := ⟨_, rfl⟩
      rw [← hu] at HX
      have HUQ := Lib.hid hu
      obtain ⟨ub, us, ue⟩ := u
      clear hu
      go_wp2_with fail
      refine HX.out.mono ?_
      clear HX
      rintro e w3 hp3
      unfold UnPost at hp3
      dsimp only at hp3
      obtain ⟨v3, rfl, hn3⟩ := hp3
      obtain ⟨A3, c3, rfl, hc3, hA3⟩ := own_form hn3.own
      have HN3 := Lib.hid hn3
      have HA3 := Lib.hid hA3
      clear hn3 hc3 hA3
      by_cases hue : ue = 0
      · subst hue
        have HOK : Hid (6 ≤ us ∧ us ≤ T - k ∧ ub.length ≤ 4096) := by
          have h := unfr_ok (l.drop k) (by rw [← HUQ.out])
          rw [← HUQ.out, List.length_drop, ← HTL.out] at h
          exact h
        have hus := HOK.out.2.1
        have f6 : (k : Int) + (us : Int) ≤ (T : Int) := by omega
        by_cases hk0 : k = 0
        · subst hk0
          have HNX : Hid (UnAt w w3 l (0 + us) (.slice Av nb cv) (R ++ [ub])) := by
            have hR : R = [] := HU.out.z.1 rfl
            refine HU.out.next HUQ.out.symm (HU.out.fr.trans HN3.out.fr) ?_ ?_
            · rw [hR]
              have h := own_fr HU.out.own HN3.out.fr fun _ _ h => h
              rw [hR] at h
              rw [HNB.out, hR]
              exact h
            · rw [hR]; simp
          go_wp2_with fail
          go_roundw
          case rel => exact ⟨0 + us, R ++ [ub], by omega, by go_num, HNX⟩
          case measure => simp [intOf]; have := HOK.out.1; omega
        · have HOV : Hid (w3.ownsRow w.heap.size 5 1 (.slice Av nb cv) nb (cb R.tail.flatten)) := by
            have h := own_fr HU.out.own HN3.out.fr fun _ _ h => h
            rw [← HNB.out] at h
            exact h
          have HSZ : Hid (w.heap.size ≤ w3.heap.size) := (HU.out.fr.trans HN3.out.fr).size
          have hk1 : 0 < k := by omega
          have hul := HOK.out.2.2
          go_wp2_with (at_builtin; refine wpList_app rfl _ _ 55 rfl w.heap.size 5 i0 (.int .u8 0) 1 Tryz.underlying55 hi hz0 hz1 hz2 rfl (.slice Av nb cv) nb (cb R.tail.flatten) rfl HOV.out A3 c3 ub.length (cb ub) rfl (cb_length _) (Rd.of_own HN3.out.own) (cb_one _) HA3.out (by unfold maxLen; omega) (by omega) HSZ.out ?_)
          intro v4 w4 ho4 hg4 _ hb4
          have HNX : Hid (UnAt w w4 l (k + us) v4 (R ++ [ub])) := by
            have hR : R ≠ [] := fun h => hk0 (HU.out.z.2 h)
            refine HU.out.next HUQ.out.symm ((HU.out.fr.trans HN3.out.fr).grown hg4 fun q hq hlt => absurd (HOV.out.lt q hq).1 (by omega)) ?_ ?_
            · rw [flat_snoc R ub hR, List.length_append, cb_append, ← HNB.out]
              exact ho4
            · rw [flat_snoc R ub hR, List.length_append, ← HNB.out]
              have h1 := HU.out.few
              have h2 := unfr_len (l.drop k) (by rw [← HUQ.out])
              rw [← HUQ.out] at h2
              rw [← HNB.out] at h1
              dsimp only at h2
              omega
          clear ho4 hg4 hb4
          go_wp2_with fail
          go_roundw
          case rel => exact ⟨k + us, R ++ [ub], by omega, by go_num, HNX⟩
          case measure => simp [intOf]; have := HOK.out.1; omega
      · have HBAD : Hid (unpk l = ([], 61)) := HU.out.bad (parse_bad _ (by rw [← HUQ.out]; exact hue)) (by rw [← HTL.out]; exact hlt)
        have t1 : ((ue : Int) != 0) = true := by rw [bne_iff_ne]; omega
        have t2 : ¬ (ue : Int) = 0 := by omega
        have HZ : Hid (UnpkPost w w3 (.returned (.tuple #[.slice none 0 0, .int .i64 61])) (unpk l)) := by
          rw [HBAD.out]
          exact ⟨_, rfl, World.ownsRow_nil _ _ _ _, HU.out.fr.trans HN3.out.fr⟩
        go_wp2_with fail
        go_ret2
        exact HZ.out
    · obtain rfl : k = T := by omega
      obtain ⟨bd, hbd⟩ : ∃ bd, bd = R.tail.flatten := ⟨_, rfl⟩
      have HFI : Hid (unpk l = if pk bd = l then (bd, 0) else ([], 61)) := by
        have h := HU.out
        rw [HTL.out] at h
        rw [hbd]
        exact h.fin
      have HNB2 : Hid (nb = bd.length) := by show _ = _; rw [hbd]; exact HNB.out
      have HO : Hid (wr.ownsRow w.heap.size 5 1 (.slice Av nb cv) nb (cb bd)) := by
        have h := HU.out.own
        rw [← hbd, ← HNB2.out] at h
        exact h
      have hp := pack_any wr (HT.out.fr HU.out.fr fun h => h) Av cv bd ⟨Rd.of_own HO.out, HAV.out⟩ (by rw [hbd]; exact HCV.out) (by rw [← HNB2.out]; exact hnbk)
      rw [← HNB2.out] at hp
      have HP := Lib.hid hp
      have HF := Lib.hid HU.out.fr
      clear hp hbd HNB HU HCV
      go_wp2_with fail
      refine HP.out.mono ?_
      clear HP
      rintro e w4 ⟨v4, rfl, hn4⟩
      obtain ⟨A4, c4, rfl, _, _⟩ := own_form hn4.own
      have HF4 := Lib.hid (HF.out.trans hn4.fr)
      have HO4 := Lib.hid (own_fr HO.out hn4.fr fun _ _ h => h)
      obtain ⟨pl, hpl⟩ : ∃ pl, pl = (pk bd).length := ⟨_, rfl⟩
      have HE := Lib.hid (equal_any w4 A4 A pl k c4 c (pk bd) l hpl HTL.out (Rd.of_own hn4.own) (HRR.out.nofr HF4.out))
      rw [← hpl]
      clear hn4 hpl
      by_cases heq : pk bd = l
      · have HZ : Hid (UnpkPost w w4 (.returned (.tuple #[.slice Av nb cv, .int .i64 0])) (unpk l)) := by
          rw [HFI.out, if_pos heq]
          exact ⟨_, rfl, by rw [← HNB2.out]; exact HO4.out, HF4.out⟩
        have hd : decide (pk bd = l) = true := decide_eq_true heq
        rw [hd] at HE
        clear heq hd
        go_wp2_with fail
        refine HE.out.mono ?_
        clear HE
        rintro e w5 ⟨rfl, rfl⟩
        go_wp2_with fail
        go_ret2
        exact HZ.out
      · have HZ : Hid (UnpkPost w w4 (.returned (.tuple #[.slice none 0 0, .int .i64 61])) (unpk l)) := by
          rw [HFI.out, if_neg heq]
          exact ⟨_, rfl, World.ownsRow_nil _ _ _ _, HF4.out⟩
        have hd : decide (pk bd = l) = false := decide_eq_false heq
        rw [hd] at HE
        clear heq hd
        go_wp2_with fail
        refine HE.out.mono ?_
        clear HE
        rintro e w5 ⟨rfl, rfl⟩
        go_wp2_with fail
        go_ret2
        exact HZ.out
end Go.Proofs.YtafiokabnlmgpaaGreatDoor
