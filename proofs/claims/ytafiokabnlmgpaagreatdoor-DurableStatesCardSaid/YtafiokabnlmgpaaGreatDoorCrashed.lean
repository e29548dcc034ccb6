/- A file behind a crash. Condition: lengths. -/
import Derived.Test.YtafiokabnlmgpaaGreatDoorCalls
namespace Go.Proofs.YtafiokabnlmgpaaGreatDoor
open Go.RowKit Go.Maps

/-- what a call hands back that lies in new memory. -/
structure New (w w' : World) (v : Value) (l : List UInt8) : Prop where
  own : w'.ownsRow w.heap.size 5 1 v l.length (cb l)
  fr : Fr NoBlk w w'
set_option maxRecDepth 100000 in
theorem clone_any (w : World) (A : Option Addr) (n c : Nat) (l : List UInt8) (hn : n = l.length) (hr : Rd w A (cb l)) (hA : A = none → c = 0) (hl : l.length ≤ 1000000000) :
    Calls Tryz.prog 81 #[.slice A n c] w fun e w' => ∃ v', e = .returned v' ∧ New w w' v' l := by
  obtain ⟨i0, hi, hz0, hz1, hz2⟩ := info_parts byteInfo
  subst hn
  rcases A with _ | ad
  · have hl0 : l = [] := by
      rcases Nat.eq_zero_or_pos l.length with h0 | h0
      · exact List.eq_nil_of_length_eq_zero h0
      · obtain ⟨_, _, h, _⟩ := hr (by rw [cb_length]; exact h0)
        cases h
    subst hl0
    obtain rfl := hA rfl
    have q := Lib.run_eql_slice_nil (P := Tryz.prog) w 55 _ none 0 0 0 0 Tryz.underlying55
    clear hr hA hl
    simp only [List.length_nil]
    go_enter Tryz.func81, Tryz.ntmps81
    go_wp2
    go_ret
    exact ⟨_, rfl, World.ownsRow_nil _ _ _ _, Fr.refl _ _⟩
  · clear hA
    have HR := Lib.hid hr
    have HS := Lib.hid hl
    have q := Lib.run_eql_slice_nil (P := Tryz.prog) w 55 _ (some ad) l.length c 0 0 Tryz.underlying55
    clear hr hl
    go_enter Tryz.func81, Tryz.ntmps81
    go_wp2_with (at_builtin; refine wpList_app rfl _ _ 55 rfl w.heap.size 5 i0 (.int .u8 0) 1 Tryz.underlying55 hi hz0 hz1 hz2 rfl _ 0 [] rfl (World.ownsRow_made w #[] 0 (Nat.le_refl _) (by decide) rfl) (some ad) c l.length (cb l) rfl (cb_length l) ?c1 (cb_one _) ?c2 ?c3 ?c4 ?c5 ?_)
    case c1 => exact HR.out.alloc _
    case c2 => intro h; cases h
    case c3 => have := HS.out; unfold maxLen; omega
    case c4 => have := HS.out; omega
    case c5 => simp
    intro v' w1 hown' hgrow _ hblk
    have HX : Hid (New w w1 v' l) := ⟨by simpa using hown', ((Fr.refl _ _).alloc _).grown hgrow (fun k hk hlt => by simp [Value.ownBlock] at hk; omega)⟩
    clear hown' hgrow hblk
    go_wp2
    go_ret
    exact ⟨v', rfl, HX.out⟩

theorem tmod_pos (k q : Int) (hq : 0 < q) (h : 0 ≤ k.tmod q) : k.tmod q = k % q := by
  have h1 := Int.mul_tdiv_add_tmod k q
  have h2 := Int.tmod_lt_of_pos k hq
  have e : k % q = (k.tmod q) % q := by
    conv => lhs; rw [← h1, Int.add_comm, Int.add_mul_emod_self_left]
  rw [e, Int.emod_eq_of_lt h h2]
theorem tmod_neg (k q : Int) (hq : 0 < q) (h : k.tmod q < 0) : k.tmod q + q = k % q := by
  have h1 := Int.mul_tdiv_add_tmod k q
  have h2 : -q < k.tmod q := Int.lt_tmod_of_pos k hq
  have e : k % q = (k.tmod q + q) % q := by
    conv => lhs; rw [← h1, Int.add_comm, Int.add_mul_emod_self_left]
    rw [Int.add_emod_right]
  rw [e, Int.emod_eq_of_lt (by omega) (by omega)]
theorem pkeep_le (f : PF) (k : Int) (h : f.last ≤ f.data.length) : pkeep f k ≤ f.data.length := by
  unfold pkeep
  have := Int.emod_lt_of_pos k (show (0 : Int) < ((f.data.length - f.last + 1 : Nat) : Int) by omega)
  have := Int.emod_nonneg k (show ((f.data.length - f.last + 1 : Nat) : Int) ≠ 0 by omega)
  omega

/-- a file behind a crash, in new memory. -/
def CrashedPost (w : World) (f : Fil) (k : Int) (e : Ending) (w' : World) : Prop :=
  ∃ g A c, e = .returned (.pointer (some ⟨g, 0, none⟩)) ∧ w.heap.size ≤ g ∧ FilIn w' w.heap.size ⟨f.name, g, A, c, (pcrashF f.pf k).data, (pcrashF f.pf k).last⟩ ∧ Fr NoBlk w w'

set_option maxRecDepth 100000 in
set_option maxHeartbeats 2000000 in
theorem crashed_any (w : World) (B : Nat) (f : Fil) (hf : FilIn w B f) (hl : f.data.length ≤ 1048576) (k : Int) :
    Calls Tryz.prog 38 #[.pointer (some ⟨f.blk, 0, none⟩), .int .i64 k] w (CrashedPost w f k) := by
  have d0 : w.cell? ⟨f.blk, 0, none⟩ = some (.slice f.A f.data.length f.cap) := hf.bk.cell 0
  have d1 : w.cell? ⟨f.blk, 1, none⟩ = some (.int .i64 f.lasts) := hf.bk.cell 1
  have hll := hf.lasts
  have hbl := hf.bk.lt
  obtain ⟨A', c', e', hc', hA'⟩ := own_form hf.own
  unfold Fil.sl at e'
  injection e' with e1 e2 e3
  subst e1 e3
  have HRD : Hid (Rd w f.A (cb f.data)) := Rd.of_own hf.own
  have HF := Lib.hid hf
  have HAN := Lib.hid hA'
  obtain ⟨p, hp⟩ : ∃ p, p = f.data.length - f.lasts := ⟨_, rfl⟩
  obtain ⟨q, hq⟩ : ∃ q, q = p + 1 := ⟨_, rfl⟩
  obtain ⟨nn, hnn⟩ : ∃ nn, nn = pkeep f.pf k := ⟨_, rfl⟩
  have hnl : nn ≤ f.data.length := by rw [hnn]; exact pkeep_le f.pf k hll
  have hnq : (nn : Int) = (f.lasts : Int) + k % (q : Int) := by
    rw [hnn]
    unfold pkeep
    have e : (f.pf.data.length - f.pf.last + 1 : Nat) = q := by rw [hq, hp]; rfl
    rw [e]
    have := Int.emod_nonneg k (show (q : Int) ≠ 0 by omega)
    show ((f.lasts + _ : Nat) : Int) = _
    omega
  have HD : Hid ((pcrashF f.pf k).data = f.data.take nn) := by show _ = _; rw [hnn]; rfl
  have HL : Hid ((pcrashF f.pf k).last = nn) := by show _ = _; rw [hnn]; rfl
  have e1 : IntKind.i64.wrap ((f.data.length : Int) - (f.lasts : Int)) = (p : Int) := by rw [IntWalk.i64_in _ (by omega)]; omega
  have e2' : IntKind.i64.wrap ((p : Int) + 1) = (q : Int) := by rw [IntWalk.i64_in _ (by omega)]; omega
  have hq0 : (0 : Int) < (q : Int) := by omega
  have hqb : (q : Int) ≤ 1048577 := by omega
  have hn0 : (0 : Int) ≤ (nn : Int) := by omega
  have hnc : (nn : Int) ≤ (f.cap : Int) := by omega
  have hnl' : (nn : Int) ≤ (f.data.length : Int) := by omega
  have HRN : Hid (Rd w f.A (cb (f.data.take nn))) := by show Rd _ _ _; rw [cb_take]; exact HRD.out.take nn
  have HNL : Hid ((f.data.take nn).length = nn) := by show _ = _; rw [List.length_take]; omega
  have HK := Lib.hid fun W (hf : Fr NoBlk w W) => clone_any W f.A nn f.cap (f.data.take nn) HNL.out.symm (HRN.out.nofr hf) HAN.out (by rw [HNL.out]; omega)
  have HNQ := Lib.hid hnq
  have hmp := fun h => tmod_pos k (q : Int) hq0 h
  have hmn := fun h => tmod_neg k (q : Int) hq0 h
  have hb1 := Int.tmod_lt_of_pos k hq0
  have hb2 := Int.lt_tmod_of_pos k hq0
  obtain ⟨t, ht⟩ : ∃ t, t = k.tmod (q : Int) := ⟨_, rfl⟩
  rw [← ht] at hmp hmn hb1 hb2
  have ht' : k.tmod (q : Int) = t := ht.symm
  have e8 : IntKind.i64.wrap t = t := IntWalk.i64_in _ (by omega)
  have hqn : ((q : Int) == 0) = false := by rw [beq_eq_false_iff_ne]; omega
  clear hp hq hnn e2 hc' hA' ht hf
  have hqc : ¬ (q : Int) = 0 := by omega
  by_cases htn : t < 0
  · have hr := hmn htn
    have e5 : IntKind.i64.wrap ((f.lasts : Int) + (t + (q : Int))) = (nn : Int) := by rw [IntWalk.i64_in _ (by omega)]; omega
    clear hmp hmn hr hnq
    go_enter Tryz.func38, Tryz.ntmps38
    go_wp2_with fail
    go_quiet (fail)
    go_wp2_with fail
    have HF2 := Lib.hid ((Fr.refl NoBlk w).drewN nq)
    have d0' : (w.drewN nq).cell? ⟨f.blk, 0, none⟩ = some (.slice f.A f.data.length f.cap) := d0
    have d1' : (w.drewN nq).cell? ⟨f.blk, 1, none⟩ = some (.int .i64 f.lasts) := d1
    have hsz2 : (w.drewN nq).heap.size = w.heap.size := rfl
    have hbl2 : f.blk < (w.drewN nq).heap.size := hbl
    have HSZ2 := Lib.hid hsz2
    clear hsz2 d0 d1
    generalize w.drewN nq = w2 at *
    have hS0 := And.intro d0' d1'
    go_region_held3 (fun w' => w'.cell? ⟨f.blk, 0, none⟩ = some (.slice f.A f.data.length f.cap) ∧ w'.cell? ⟨f.blk, 1, none⟩ = some (.int .i64 (f.lasts : Int)))
      ((first | exact hS3 | exact hS0))
      (first
        | (go_at_call 81
           refine (HK.out _ ?_).mono ?_
           first | exact HF2.out | exact HF2.out.drew
           rintro e w3 ⟨v3, rfl, hn3⟩
           obtain ⟨A3, c3, rfl, hc3, hA3⟩ := own_form hn3.own
           have HF3 : Hid (Fr NoBlk w2 w3) := (by first | exact hn3.fr | exact ((Fr.refl NoBlk w2).drew).trans hn3.fr)
           have HO3 : Hid (w3.ownsRow w2.heap.size 5 1 (.slice A3 (f.data.take nn).length c3) (f.data.take nn).length (cb (f.data.take nn))) := hn3.own
           have hS3 := And.intro ((HF3.out.cell (p := ⟨f.blk, 0, none⟩) hbl2 (fun h => h)).trans d0') ((HF3.out.cell (p := ⟨f.blk, 1, none⟩) hbl2 (fun h => h)).trans d1')
           clear hn3 hc3 hA3))
    have HX : Hid (CrashedPost w f k (.returned (.pointer (some ⟨w3.heap.size, 0, none⟩))) (w3.alloc (.cells #[.slice A3 nn c3, .int .i64 nn] 168))) := by
      refine ⟨_, A3, c3, rfl, ?_, ⟨?_, ?_, ?_, ?_, ?_⟩, (HF2.out.trans HF3.out).alloc _⟩
      · have := HF3.out.size; have := HSZ2.out; omega
      · show Bk _ _ _ #[.slice A3 (pcrashF f.pf k).data.length c3, .int .i64 (pcrashF f.pf k).last]
        rw [HD.out, HL.out, HNL.out]
        exact Bk.new w3 168 #[.slice A3 nn c3, .int .i64 nn]
      · show World.ownsRow _ _ _ _ (.slice A3 (pcrashF f.pf k).data.length c3) (pcrashF f.pf k).data.length (cb (pcrashF f.pf k).data)
        rw [HD.out, ← HSZ2.out]
        exact HO3.out.alloc _
      · show w.heap.size ≤ w3.heap.size
        have := HF3.out.size; have := HSZ2.out; omega
      · show (pcrashF f.pf k).last ≤ (pcrashF f.pf k).data.length
        rw [HD.out, HL.out, HNL.out]
        exact Nat.le_refl _
      · exact HF.out.nm
    clear hS3 hS0 e1 e2' e5 e8
    go_wp2_with fail
    go_ret
    exact HX.out
  · have hr := hmp (by omega)
    have e5 : IntKind.i64.wrap ((f.lasts : Int) + t) = (nn : Int) := by rw [IntWalk.i64_in _ (by omega)]; omega
    clear hmp hmn hr hnq
    go_enter Tryz.func38, Tryz.ntmps38
    go_wp2_with fail
    go_quiet (fail)
    go_wp2_with fail
    have HF2 := Lib.hid ((Fr.refl NoBlk w).drewN nq)
    have d0' : (w.drewN nq).cell? ⟨f.blk, 0, none⟩ = some (.slice f.A f.data.length f.cap) := d0
    have d1' : (w.drewN nq).cell? ⟨f.blk, 1, none⟩ = some (.int .i64 f.lasts) := d1
    have hsz2 : (w.drewN nq).heap.size = w.heap.size := rfl
    have hbl2 : f.blk < (w.drewN nq).heap.size := hbl
    have HSZ2 := Lib.hid hsz2
    clear hsz2 d0 d1
    generalize w.drewN nq = w2 at *
    have hS0 := And.intro d0' d1'
    go_region_held3 (fun w' => w'.cell? ⟨f.blk, 0, none⟩ = some (.slice f.A f.data.length f.cap) ∧ w'.cell? ⟨f.blk, 1, none⟩ = some (.int .i64 (f.lasts : Int)))
      ((first | exact hS3 | exact hS0))
      (first
        | (go_at_call 81
           refine (HK.out _ ?_).mono ?_
           first | exact HF2.out | exact HF2.out.drew
           rintro e w3 ⟨v3, rfl, hn3⟩
           obtain ⟨A3, c3, rfl, hc3, hA3⟩ := own_form hn3.own
           have HF3 : Hid (Fr NoBlk w2 w3) := (by first | exact hn3.fr | exact ((Fr.refl NoBlk w2).drew).trans hn3.fr)
           have HO3 : Hid (w3.ownsRow w2.heap.size 5 1 (.slice A3 (f.data.take nn).length c3) (f.data.take nn).length (cb (f.data.take nn))) := hn3.own
           have hS3 := And.intro ((HF3.out.cell (p := ⟨f.blk, 0, none⟩) hbl2 (fun h => h)).trans d0') ((HF3.out.cell (p := ⟨f.blk, 1, none⟩) hbl2 (fun h => h)).trans d1')
           clear hn3 hc3 hA3))
    have HX : Hid (CrashedPost w f k (.returned (.pointer (some ⟨w3.heap.size, 0, none⟩))) (w3.alloc (.cells #[.slice A3 nn c3, .int .i64 nn] 168))) := by
      refine ⟨_, A3, c3, rfl, ?_, ⟨?_, ?_, ?_, ?_, ?_⟩, (HF2.out.trans HF3.out).alloc _⟩
      · have := HF3.out.size; have := HSZ2.out; omega
      · show Bk _ _ _ #[.slice A3 (pcrashF f.pf k).data.length c3, .int .i64 (pcrashF f.pf k).last]
        rw [HD.out, HL.out, HNL.out]
        exact Bk.new w3 168 #[.slice A3 nn c3, .int .i64 nn]
      · show World.ownsRow _ _ _ _ (.slice A3 (pcrashF f.pf k).data.length c3) (pcrashF f.pf k).data.length (cb (pcrashF f.pf k).data)
        rw [HD.out, ← HSZ2.out]
        exact HO3.out.alloc _
      · show w.heap.size ≤ w3.heap.size
        have := HF3.out.size; have := HSZ2.out; omega
      · show (pcrashF f.pf k).last ≤ (pcrashF f.pf k).data.length
        rw [HD.out, HL.out, HNL.out]
        exact Nat.le_refl _
      · exact HF.out.nm
    clear hS3 hS0 e1 e2' e5 e8
    go_wp2_with fail
    go_ret
    exact HX.out
end Go.Proofs.YtafiokabnlmgpaaGreatDoor
