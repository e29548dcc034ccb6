/- Two children beside each other become one. Conditions: as the tree's shape has them. -/
import Derived.Test.YtkdcacajacndmaaN10R

namespace Go.Proofs.Ytkdcacajacndmaa
open Go.RowKit
def JoiRPost (w : World) (h l r : Hd ItR) (ps lps rps : List Nat) (i : Nat) (m : ItR) (e : Ending) (w' : World) : Prop :=
  (∃ v, e = .returned v) ∧ ∃ h' l' : Hd ItR, h'.xs = h.xs.take i ++ h.xs.drop (i + 1) ∧ h'.lies tkR w' (ps.take (i + 1) ++ ps.drop (i + 2)) ∧ h'.g = h.g ∧ (∀ b, h'.own b → h.own b) ∧
    l'.xs = l.xs ++ m :: r.xs ∧ l'.lies tkR w' (lps ++ rps) ∧ l'.g = l.g ∧ (∀ b, l'.own b → l.own b ∨ w.heap.size ≤ b) ∧ Dj h'.own l'.own ∧ Fr (fun b => h.own b ∨ l.own b) w w'
set_option maxRecDepth 100000 in
set_option maxHeartbeats 1000000 in
theorem joiR_any (w : World) (h l r : Hd ItR) (ps lps rps : List Nat) (i : Nat) (m : ItR) (hh : h.lies tkR w ps) (hl : l.lies tkR w lps) (hr : r.lies tkR w rps) (hi : ps[i]? = some l.g) (hi1 : ps[i + 1]? = some r.g) (hm : h.xs[i]? = some m)
    (hn : h.xs.length ≤ 17) (hln : l.xs.length ≤ 17) (hrn : r.xs.length ≤ 17) (hlp : lps.length ≤ 18) (hrp : rps.length ≤ 18) (d1 : Dj h.own l.own) (d2 : Dj h.own r.own) (d3 : Dj l.own r.own) (hps : ps.length ≤ 100) :
    Calls Try.prog 100 #[.pointer (some ⟨h.g, 0, none⟩), .int .i64 i] w (JoiRPost w h l r ps lps rps i m) := by
  obtain ⟨i0, hi0, hz0, hz1, hz2⟩ := info_parts infoIR
  obtain ⟨j0, hj0, hy0, hy1, hy2⟩ := info_parts infoPR
  obtain ⟨hg, hA, hc, hB, he, hxs⟩ := h
  obtain ⟨lg, lA, lc, lB, le, lxs⟩ := l
  obtain ⟨rg, rA, rc, rB, re, rxs⟩ := r
  dsimp only at hi hi1 hm hn hln hrn
  obtain ⟨b1, b2, b3⟩ := hh
  obtain ⟨l1, l2, l3⟩ := hl
  obtain ⟨r1, r2, r3⟩ := hr
  have hh : (Hd.mk hg hA hc hB he hxs).lies tkR w ps := ⟨b1, b2, b3⟩
  have hl : (Hd.mk lg lA lc lB le lxs).lies tkR w lps := ⟨l1, l2, l3⟩
  have hr : (Hd.mk rg rA rc rB re rxs).lies tkR w rps := ⟨r1, r2, r3⟩
  unfold tkR at b1 b2 b3 l1 l2 l3 r1 r2 r3
  dsimp only at b1 b2 b3 l1 l2 l3 r1 r2 r3
  obtain ⟨n, hnn⟩ : ∃ n, n = hxs.length := ⟨_, rfl⟩
  obtain ⟨np, hnp⟩ : ∃ np, np = ps.length := ⟨_, rfl⟩
  obtain ⟨nl, hnl⟩ : ∃ nl, nl = lxs.length := ⟨_, rfl⟩
  obtain ⟨nr, hnr⟩ : ∃ nr, nr = rxs.length := ⟨_, rfl⟩
  obtain ⟨nlp, hnlp⟩ : ∃ nlp, nlp = lps.length := ⟨_, rfl⟩
  obtain ⟨nrp, hnrp⟩ : ∃ nrp, nrp = rps.length := ⟨_, rfl⟩
  rw [← hnn] at b1 b2
  rw [← hnp] at b1 b3
  rw [← hnl] at l1 l2
  rw [← hnlp] at l1 l3
  rw [← hnr] at r1 r2
  rw [← hnrp] at r1 r3
  have hinp : i < np := by rw [hnp]; exact (List.getElem?_eq_some_iff.1 hi).1
  have hinp1 : i + 1 < np := by rw [hnp]; exact (List.getElem?_eq_some_iff.1 hi1).1
  have hin : i < n := by rw [hnn]; exact (List.getElem?_eq_some_iff.1 hm).1
  obtain ⟨pb, rfl⟩ := b3.addr (by omega)
  obtain ⟨ha, rfl⟩ := b2.addr (by omega)
  obtain ⟨mk, mv⟩ := m
  have pc : w.cell? ⟨pb, i, none⟩ = some (.pointer (some ⟨lg, 0, none⟩)) := b3.cellP (ps := ps) hi
  have pc1 : w.cell? ⟨pb, i + 1, none⟩ = some (.pointer (some ⟨rg, 0, none⟩)) := b3.cellP (ps := ps) hi1
  have c1 : w.cell? ⟨hg, 1, none⟩ = some (.slice (some ⟨pb, 0, none⟩) np he) := b1.cell 1
  have hwi : IntKind.i64.wrap ((i : Int) + 1) = (i : Int) + 1 := IntWalk.i64_in _ (by omega)
  have hwi2 : IntKind.i64.wrap ((i : Int) + 2) = (i : Int) + 2 := IntWalk.i64_in _ (by omega)
  have HH := Lib.hid hh
  have HL := Lib.hid hl
  have HR := Lib.hid hr
  have HN : Hid (n = hxs.length ∧ nlp = lps.length ∧ nl = lxs.length ∧ nrp = rps.length ∧ nr = rxs.length ∧ np = ps.length) := ⟨hnn, hnlp, hnl, hnrp, hnr, hnp⟩
  have HM := Lib.hid hm
  have HD := Lib.hid (And.intro d1 (And.intro d2 d3))
  have HSZ : Hid (n ≤ 17 ∧ nr ≤ 17 ∧ nl ≤ 17 ∧ np ≤ 100 ∧ nlp ≤ 18 ∧ nrp ≤ 18) := ⟨by omega, by omega, by omega, by omega, by omega, by omega⟩
  have HRA : Hid ((rA = none → rc = 0) ∧ (rB = none → re = 0)) := by
    obtain ⟨_, _, e1, _, h1⟩ := r2.form
    obtain ⟨_, _, e2, _, h2⟩ := r3.form
    injection e1 with a b c
    injection e2 with a' b' c'
    subst a c a' c'
    exact ⟨h1, h2⟩
  clear b1 b2 b3 l1 l2 l3 r1 r2 r3 hh hl hr hm d1 d2 d3 hnn hnlp hnl hnrp hnr hnp hi hi1 hn hln hrn hps hlp hrp
  go_enter Try.func100, Try.ntmps100
  go_wp2_with fail
  go_quiet (fail)
  have HF1 : Hid (Fr NoBlk w (w.drewN nq)) := (Fr.refl NoBlk w).drewN nq
  obtain ⟨w1, hw1⟩ : ∃ w1, w1 = w.drewN nq := ⟨_, rfl⟩
  rw [← hw1] at HF1 ⊢
  clear hw1 pc pc1 c1
  have HH1 := Lib.hid (HH.out.fr HF1.out fun _ _ e => e)
  have HL1 := Lib.hid (HL.out.fr HF1.out fun _ _ e => e)
  have HR1 := Lib.hid (HR.out.fr HF1.out fun _ _ e => e)
  obtain ⟨b1, b2, b3⟩ := HH1.out
  obtain ⟨l1, l2, l3⟩ := HL1.out
  obtain ⟨r1, r2, r3⟩ := HR1.out
  unfold tkR at b1 b2 b3 l1 l2 l3 r1 r2 r3
  dsimp only at b1 b2 b3 l1 l2 l3 r1 r2 r3
  rw [← HN.out.1] at b1 b2
  rw [← HN.out.2.2.2.2.2] at b1 b3
  rw [← HN.out.2.2.1] at l1 l2
  rw [← HN.out.2.1] at l1 l3
  rw [← HN.out.2.2.2.2.1] at r1 r2
  rw [← HN.out.2.2.2.1] at r1 r3
  have c0 : w1.cell? ⟨lg, 0, none⟩ = some (.slice lA nl lc) := l1.cell 0
  have c0a : (w1.alloc (.cells #[.string (bstr mk), .bool mv.has, .slice mv.va mv.vn mv.vc, .int .i64 mv.home, .int .u64 (mv.count : Int)] 124)).cell? ⟨lg, 0, none⟩ = some (.slice lA nl lc) := (l1.alloc _).cell 0
  have c0d : w1.drew.cell? ⟨lg, 0, none⟩ = some (.slice lA nl lc) := c0
  have c0ad : (w1.alloc (.cells #[.string (bstr mk), .bool mv.has, .slice mv.va mv.vn mv.vc, .int .i64 mv.home, .int .u64 (mv.count : Int)] 124)).drew.cell? ⟨lg, 0, none⟩ = some (.slice lA nl lc) := c0a
  have c0da : (w1.drew.alloc (.cells #[.string (bstr mk), .bool mv.has, .slice mv.va mv.vn mv.vc, .int .i64 mv.home, .int .u64 (mv.count : Int)] 124)).cell? ⟨lg, 0, none⟩ = some (.slice lA nl lc) := c0a
  have f0 : w1.cell? ⟨rg, 0, none⟩ = some (.slice rA nr rc) := r1.cell 0
  have f0a : (w1.alloc (.cells #[.string (bstr mk), .bool mv.has, .slice mv.va mv.vn mv.vc, .int .i64 mv.home, .int .u64 (mv.count : Int)] 124)).cell? ⟨rg, 0, none⟩ = some (.slice rA nr rc) := (r1.alloc _).cell 0
  have f0d : w1.drew.cell? ⟨rg, 0, none⟩ = some (.slice rA nr rc) := f0
  have f0ad : (w1.alloc (.cells #[.string (bstr mk), .bool mv.has, .slice mv.va mv.vn mv.vc, .int .i64 mv.home, .int .u64 (mv.count : Int)] 124)).drew.cell? ⟨rg, 0, none⟩ = some (.slice rA nr rc) := f0a
  have f0da : (w1.drew.alloc (.cells #[.string (bstr mk), .bool mv.has, .slice mv.va mv.vn mv.vc, .int .i64 mv.home, .int .u64 (mv.count : Int)] 124)).cell? ⟨rg, 0, none⟩ = some (.slice rA nr rc) := f0a
  have e0 : w1.cell? ⟨hg, 0, none⟩ = some (.slice (some ⟨ha, 0, none⟩) n hc) := b1.cell 0
  have e0d : w1.drew.cell? ⟨hg, 0, none⟩ = some (.slice (some ⟨ha, 0, none⟩) n hc) := e0
  have m0 : w1.cell? ⟨ha, i * 5, none⟩ = some (.string (bstr mk)) := (b2.cellR HM.out).1
  have m1 : w1.cell? ⟨ha, i * 5 + 1, none⟩ = some (.bool mv.has) := (b2.cellR HM.out).2.1
  have m1x1 : w1.cell? ⟨ha, i * 5 + 2, none⟩ = some (.slice mv.va mv.vn mv.vc) := (b2.cellR HM.out).2.2.1
  have m1x2 : w1.cell? ⟨ha, i * 5 + 3, none⟩ = some (.int .i64 mv.home) := (b2.cellR HM.out).2.2.2.1
  have m1x3 : w1.cell? ⟨ha, i * 5 + 4, none⟩ = some (.int .u64 (mv.count : Int)) := (b2.cellR HM.out).2.2.2.2
  have m0d : w1.drew.cell? ⟨ha, i * 5, none⟩ = some (.string (bstr mk)) := m0
  have m1d : w1.drew.cell? ⟨ha, i * 5 + 1, none⟩ = some (.bool mv.has) := m1
  have m1dx1 : w1.drew.cell? ⟨ha, i * 5 + 2, none⟩ = some (.slice mv.va mv.vn mv.vc) := m1x1
  have m1dx2 : w1.drew.cell? ⟨ha, i * 5 + 3, none⟩ = some (.int .i64 mv.home) := m1x2
  have m1dx3 : w1.drew.cell? ⟨ha, i * 5 + 4, none⟩ = some (.int .u64 (mv.count : Int)) := m1x3
  have HROW : Hid (∀ W, Fr NoBlk w1 W → RowW W 0 124 5 (.slice lA nl lc) nl (itsR lxs)) := fun W hf => l2.fr hf fun _ _ e => e
  have HSRC : Hid (∀ W, Fr (ablk lA) w1 W → Rd W rA (itsR rxs) ∧ Bk W rg 102 #[.slice rA nr rc, .slice rB nrp re]) := fun W hf => ⟨r2.rd.fr hf fun k h1 h2 => HD.out.2.2 k (.inr (.inl h2)) (.inr (.inl h1)), r1.fr hf fun h => HD.out.2.2 rg (.inr (.inl h)) (.inl rfl)⟩
  have HLB := Lib.hid (And.intro l1 (l2.ne_ l1 (by decide)))
  have hrl : (itsR rxs).length = nr * 5 := by rw [itsR_len, HN.out.2.2.2.2.1]
  have HRL := Lib.hid hrl
  clear b1 b2 b3 l1 l2 l3 r1 r2 r3 hrl
  go_upto_region 1 with fail
  go_cut [21] (fun s wx => s = .pointer (some ⟨lg, 0, none⟩) ∧ Hid (AnewR w1 wx ⟨lg, lA, lc, lB, le, lxs⟩ (lxs ++ (mk, mv) :: rxs) lps))
  case first =>
    go_region_law (first
      | ((refine step_appRow rfl _ _ 99 rfl 0 124 i0 _ 5 64 Try.underlying99 hi0 hz0 hz1 hz2 rfl (by decide) (.slice lA nl lc) nl (itsR lxs) (by simp [Act.eval]) (HROW.out _ (by first | exact ((Fr.refl _ _).alloc _).drew | exact (Fr.refl _ _).drew.alloc _)) (some ⟨w1.heap.size, 0, none⟩) 1 1 [.string (bstr mk), .bool mv.has, .slice mv.va mv.vn mv.vc, .int .i64 mv.home, .int .u64 (mv.count : Int)] (by simp [Act.eval]) rfl (by first | exact Rd.of_cells (Bk.new _ _ _) | exact Rd.of_cells (Bk.fr (Bk.new _ _ _) (Fr.refl NoBlk _).drew fun h => h)) (by intro u hu; simp only [List.mem_cons, List.not_mem_nil, or_false] at hu; rcases hu with rfl | rfl | rfl | rfl | rfl <;> rfl) (fun h => by cases h) (by have := HSZ.out; unfold maxLen; omega) (by have := HSZ.out; omega) (Nat.zero_le _) ?_); intro v2 w2 ho2 hf2 hb2; obtain ⟨A2, c2, rfl, hc2, hA2⟩ := ho2.form; have HO2 := Lib.hid ho2; have HX2 := Lib.hid (rowPost (w1 := w1) (by first | exact ((Fr.refl _ _).alloc _).drew | exact (Fr.refl _ _).drew.alloc _) hf2 hb2); have HB2 := Lib.hid (HLB.out.1.fr HX2.out.1 HLB.out.2); have HS2 := Lib.hid (HSRC.out _ HX2.out.1); have r2' := HS2.out.2.cell 0; clear ho2 hf2 hb2 hA2 hc2)
      | ((refine step_appRow rfl _ _ 99 rfl 0 124 i0 _ 5 64 Try.underlying99 hi0 hz0 hz1 hz2 rfl (by decide) (.slice A2 (nl + 1) c2) (nl + 1) (itsR lxs ++ [.string (bstr mk), .bool mv.has, .slice mv.va mv.vn mv.vc, .int .i64 mv.home, .int .u64 (mv.count : Int)]) (by simp [Act.eval]) HO2.out rA rc nr (itsR rxs) (by simp [Act.eval]) HRL.out HS2.out.1 (itsR_one rxs) HRA.out.1 (by have := HSZ.out; unfold maxLen; omega) (by have := HSZ.out; omega) (Nat.zero_le _) ?_); intro v3 w3 ho3 hf3 hb3; obtain ⟨A3, c3, rfl, hc3, hA3⟩ := ho3.form; have HO3 := Lib.hid ho3; have HX3 := Lib.hid (rowPost (w1 := w2) (Fr.refl _ _) hf3 hb3); have HB3 := Lib.hid (HB2.out.fr HX3.out.1 (HO2.out.ne_ HB2.out (by decide))); have c3' := HB3.out.cell 0; have f3' := HB3.out.free 0; clear ho3 hf3 hb3 hA3 hc3))
    all_goals
      go_wp2_with fail
      go_meet
      refine ⟨rfl, AnewR.ofI (n' := nl + 1 + nr) HL1.out (by show nl + 1 + nr = (lxs ++ (mk, mv) :: rxs).length; rw [List.length_append, List.length_cons, HN.out.2.2.1, HN.out.2.2.2.2.1]; omega) ?_ (HX2.out.1.step HX3.out.1 fun b hb h => ?_) fun b hb => ?_⟩
      · rw [itsR_append, show itsR ((mk, mv) :: rxs) = [.string (bstr mk), .bool mv.has, .slice mv.va mv.vn mv.vc, .int .i64 mv.home, .int .u64 (mv.count : Int)] ++ itsR rxs from rfl, ← List.append_assoc]; exact HO3.out
      · rcases HX2.out.2 b h with h | h
        · exact h
        · omega
      · have hz := HX2.out.1.size
        rcases HX3.out.2 b hb with h | h
        · exact HX2.out.2 b h
        · exact .inr (by omega)
  case rest =>
    obtain ⟨w3, rfl⟩ : ∃ w3, w3 = wc := ⟨_, rfl⟩
    obtain ⟨rfl, HCR⟩ := hcut
    obtain ⟨⟨lg', lA', lc', lB', le', lxs'⟩, hl9, hlx9, hlg9, hlo, hlf⟩ := HCR.out
    dsimp only at hlx9 hlg9
    subst hlx9 hlg9
    have HL3 := Lib.hid hl9
    have HLO := Lib.hid hlo
    have HLF := Lib.hid hlf
    have HH3 : Hid ((Hd.mk hg (some ⟨ha, 0, none⟩) hc (some ⟨pb, 0, none⟩) he hxs).lies tkR w3 ps) := Hd.lies.fr HH1.out hlf fun b h1 h2 => HD.out.1 b h1 h2
    have HR3 : Hid ((Hd.mk rg rA rc rB re rxs).lies tkR w3 rps) := Hd.lies.fr HR1.out hlf fun b h1 h2 => HD.out.2.2 b h2 h1
    clear hl9 hlo hlf HCR HLB HROW HSRC HRL e0 e0d m0 m1 m1x3 m1x2 m1x1 m0d m1d m1dx3 m1dx2 m1dx1 c0 c0a c0d c0ad c0da f0 f0a f0d f0ad f0da
    obtain ⟨l1, l2, l3⟩ := HL3.out
    obtain ⟨r1, r2, r3⟩ := HR3.out
    unfold tkR at l1 l2 l3 r1 r2 r3
    dsimp only at l1 l2 l3 r1 r2 r3
    rw [← HN.out.2.1] at l1 l3
    rw [← HN.out.2.2.2.1] at r1 r3
    obtain ⟨nx, hnx⟩ : ∃ nx, nx = (lxs ++ (mk, mv) :: rxs).length := ⟨_, rfl⟩
    rw [← hnx] at l1
    have c1 : w3.cell? ⟨lg', 1, none⟩ = some (.slice lB' nlp le') := l1.cell 1
    have c1d : w3.drew.cell? ⟨lg', 1, none⟩ = some (.slice lB' nlp le') := c1
    have f1 : w3.cell? ⟨rg, 1, none⟩ = some (.slice rB nrp re) := r1.cell 1
    have f1d : w3.drew.cell? ⟨rg, 1, none⟩ = some (.slice rB nrp re) := f1
    have HROW : Hid (∀ W, Fr NoBlk w3 W → RowW W 0 98 1 (.slice lB' nlp le') nlp (lps.map ptr)) := fun W hf => l3.fr hf fun _ _ e => e
    have HSRC : Hid (∀ W, Fr NoBlk w3 W → Rd W rB (rps.map ptr)) := fun W hf => r3.rd.nofr hf
    have HLB := Lib.hid (And.intro l1 (l3.ne_ l1 (by decide)))
    have HPL : Hid ((rps.map ptr).length = nrp * 1) := by show _ = _; rw [List.length_map, HN.out.2.2.2.1, Nat.mul_one]
    have HP1 : Hid (∀ u ∈ rps.map ptr, u.oneCell' = true) := fun u hu => by obtain ⟨p, _, rfl⟩ := List.mem_map.1 hu; rfl
    clear l1 l2 l3 r1 r2 r3 hnx
    go_upto_region 2 with fail
    go_cut [42] (fun s wx => s = .pointer (some ⟨lg', 0, none⟩) ∧ Hid (AnewR w3 wx ⟨lg', lA', lc', lB', le', lxs ++ (mk, mv) :: rxs⟩ (lxs ++ (mk, mv) :: rxs) (lps ++ rps)))
    case first =>
      go_region_law ((refine step_appRow rfl _ _ 100 rfl 0 98 j0 _ 1 8 Try.underlying100 hj0 hy0 hy1 hy2 rfl (by decide) (.slice lB' nlp le') nlp (lps.map ptr) (by simp [Act.eval]) (HROW.out _ (by first | exact (Fr.refl _ _).drew | exact Fr.refl _ _)) rB re nrp (rps.map ptr) (by simp [Act.eval]) HPL.out (HSRC.out _ (by first | exact (Fr.refl _ _).drew | exact Fr.refl _ _)) HP1.out HRA.out.2 (by have := HSZ.out; unfold maxLen; omega) (by have := HSZ.out; omega) (Nat.zero_le _) ?_); intro v2 w2 ho2 hf2 hb2; obtain ⟨A2, c2, rfl, hc2, hA2⟩ := ho2.form; have HO2 := Lib.hid ho2; have HX2 := Lib.hid (rowPost (w1 := w3) (by first | exact (Fr.refl _ _).drew | exact Fr.refl _ _) hf2 hb2); have HB2 := Lib.hid (HLB.out.1.fr HX2.out.1 HLB.out.2); have c2' := HB2.out.cell 1; have f2' := HB2.out.free 1; clear ho2 hf2 hb2 hA2 hc2)
      all_goals
        go_wp2_with fail
        go_meet
        exact ⟨rfl, AnewR.ofP (n' := nlp + nrp) HL3.out (by show nlp + nrp = (lps ++ rps).length; rw [List.length_append, HN.out.2.1, HN.out.2.2.2.1]) (by rw [List.map_append]; exact HO2.out) HX2.out.1 HX2.out.2⟩
    case rest =>
      obtain ⟨w5, rfl⟩ : ∃ w5, w5 = wc := ⟨_, rfl⟩
      obtain ⟨rfl, HCT⟩ := hcut
      obtain ⟨X5, hl5, hlx5, hlg5, hlo5, hlf5⟩ := HCT.out
      have hz3 := HLF.out.size
      have HX5 : Hid (X5.lies tkR w5 (lps ++ rps) ∧ X5.xs = lxs ++ (mk, mv) :: rxs ∧ X5.g = lg' ∧ ∀ b, X5.own b → (Hd.mk lg' lA lc lB le lxs).own b ∨ w1.heap.size ≤ b) := ⟨hl5, hlx5, hlg5, fun b hb => by
        rcases hlo5 b hb with h | h
        · exact HLO.out b h
        · exact .inr (by omega)⟩
      have HF15 : Hid (Fr (Hd.mk lg' lA lc lB le lxs).own w1 w5) := HLF.out.step hlf5 fun b hb h => by
        rcases HLO.out b h with h | h
        · exact h
        · omega
      have HH5 : Hid ((Hd.mk hg (some ⟨ha, 0, none⟩) hc (some ⟨pb, 0, none⟩) he hxs).lies tkR w5 ps) := Hd.lies.fr HH1.out HF15.out fun b h1 h2 => HD.out.1 b h1 h2
      clear hl5 hlx5 hlg5 hlo5 hlf5 hz3 HCT HROW HSRC HLB HPL HP1 c1 c1d f1 f1d HLF HL3 HR3 HH3
      obtain ⟨b1, b2, b3⟩ := HH5.out
      unfold tkR at b1 b2 b3
      dsimp only at b1 b2 b3
      rw [← HN.out.1] at b1 b2
      rw [← HN.out.2.2.2.2.2] at b1 b3
      have e0 : w5.cell? ⟨hg, 0, none⟩ = some (.slice (some ⟨ha, 0, none⟩) n hc) := b1.cell 0
      have HDEL : Hid (Calls Try.prog 90 #[.slice (some ⟨ha, 0, none⟩) n hc, .int .i64 (i : Int), .int .i64 ((i : Int) + 1)] w5 fun en w' => en = .returned (.slice (some ⟨ha, 0, none⟩) (n - 1) hc) ∧ RowW w' 0 124 5 (.slice (some ⟨ha, 0, none⟩) (n - 1) hc) (n - 1) (itsR (hxs.take i ++ hxs.drop (i + 1))) ∧ Fr (fun j => j = ha) w5 w') := by
        have h := delIR_any w5 0 ha n hc i (itsR hxs) b2 hin (by have := HSZ.out; omega)
        rw [← itsR_take, ← itsR_drop, ← itsR_append] at h
        exact h
      have HHB := Lib.hid (And.intro b1 (b2.ne_ b1 (by decide)))
      clear b1 b2 b3
      go_wp2_with fail
      refine HDEL.out.mono ?_
      clear HDEL
      rintro e w6 ⟨rfl, hr6, hf6⟩
      obtain ⟨W7, hW7⟩ : ∃ W7, W7 = w6.setCell ⟨hg, 0, none⟩ (.slice (some ⟨ha, 0, none⟩) (n - 1) hc) := ⟨_, rfl⟩
      have hset := Hd.setI tkAR HH5.out (A' := some ⟨ha, 0, none⟩) (c' := hc) (n' := n - 1) (xs' := hxs.take i ++ hxs.drop (i + 1)) (by rw [List.length_append, List.length_take, List.length_drop]; have := HN.out.1; omega) hr6 (hf6.mono fun b _ e => ⟨_, rfl, e.symm⟩) (fun b hb => .inl hb)
      rw [← hW7] at hset
      have HH7 : Hid ((Hd.mk hg (some ⟨ha, 0, none⟩) hc (some ⟨pb, 0, none⟩) he (hxs.take i ++ hxs.drop (i + 1))).lies tkR W7 ps) := hset.1
      have HF57 : Hid (Fr (Hd.mk hg (some ⟨ha, 0, none⟩) hc (some ⟨pb, 0, none⟩) he hxs).own w5 W7) := hset.2.1
      have HB6 : Hid (Bk w6 hg 102 #[.slice (some ⟨ha, 0, none⟩) n hc, .slice (some ⟨pb, 0, none⟩) np he]) := HHB.out.1.fr hf6 fun e => HHB.out.2 ⟨_, rfl, e.symm⟩
      have c6 := HB6.out.cell 0
      have f6 := HB6.out.free 0
      clear hset hr6 hf6 HHB e0
      obtain ⟨b1, b2, b3⟩ := HH7.out
      unfold tkR at b1 b2 b3
      dsimp only at b1 b2 b3
      rw [← HN.out.2.2.2.2.2] at b1 b3
      have c7 : (w6.setCell ⟨hg, 0, none⟩ (.slice (some ⟨ha, 0, none⟩) (n - 1) hc)).cell? ⟨hg, 1, none⟩ = some (.slice (some ⟨pb, 0, none⟩) np he) := by rw [← hW7]; exact b1.cell 1
      have HDP : Hid (Calls Try.prog 103 #[.slice (some ⟨pb, 0, none⟩) np he, .int .i64 ((i : Int) + 1), .int .i64 ((i : Int) + 2)] W7 fun en w' => en = .returned (.slice (some ⟨pb, 0, none⟩) (np - 1) he) ∧ RowW w' 0 98 1 (.slice (some ⟨pb, 0, none⟩) (np - 1) he) (np - 1) ((ps.take (i + 1) ++ ps.drop (i + 2)).map ptr) ∧ Fr (fun j => j = pb) W7 w') := by
        have h := delPR_any W7 0 pb np he (i + 1) (ps.map ptr) b3 hinp1 (by have := HSZ.out; omega)
        rw [← List.map_take, ← List.map_drop, ← List.map_append] at h
        exact h
      obtain ⟨ny, hny⟩ : ∃ ny, ny = (hxs.take i ++ hxs.drop (i + 1)).length := ⟨_, rfl⟩
      rw [← hny] at b1
      have HHB := Lib.hid (And.intro b1 (b3.ne_ b1 (by decide)))
      clear b1 b2 b3 hny
      go_wp2_with fail
      rw [← hW7]
      clear c7 c6 f6 hW7
      refine HDP.out.mono ?_
      clear HDP
      rintro e w8 ⟨rfl, hr8, hf8⟩
      obtain ⟨W9, hW9⟩ : ∃ W9, W9 = w8.setCell ⟨hg, 1, none⟩ (.slice (some ⟨pb, 0, none⟩) (np - 1) he) := ⟨_, rfl⟩
      have hset := Hd.setP tkAR HH7.out (B' := some ⟨pb, 0, none⟩) (e' := he) (n' := np - 1) (ps' := ps.take (i + 1) ++ ps.drop (i + 2)) (by rw [List.length_append, List.length_take, List.length_drop]; have := HN.out.2.2.2.2.2; omega) hr8 (hf8.mono fun b _ e => ⟨_, rfl, e.symm⟩) (fun b hb => .inl hb)
      rw [← hW9] at hset
      have HS := Lib.hid hset
      have HB8 : Hid (Bk w8 hg 102 #[.slice (some ⟨ha, 0, none⟩) ny hc, .slice (some ⟨pb, 0, none⟩) np he]) := HHB.out.1.fr hf8 fun e => HHB.out.2 ⟨_, rfl, e.symm⟩
      have c8 := HB8.out.cell 1
      have f8 := HB8.out.free 1
      clear hset hr8 hf8
      go_wp2_with fail
      go_end0
      rw [← hW9]
      have hsz1 := HF1.out.size
      have hx5 := HX5.out
      have hF59 : Fr (Hd.mk hg (some ⟨ha, 0, none⟩) hc (some ⟨pb, 0, none⟩) he hxs).own w5 W9 := HF57.out.trans HS.out.2.1
      have hdj : ∀ b, (Hd.mk hg (some ⟨ha, 0, none⟩) hc (some ⟨pb, 0, none⟩) he hxs).own b → X5.own b → False := fun b h1 h2 => by
        rcases hx5.2.2.2 b h2 with h | h
        · exact HD.out.1 b h1 h
        · have := HH1.out.lt (b := b) h1; omega
      refine ⟨⟨_, rfl⟩, ⟨hg, some ⟨ha, 0, none⟩, hc, some ⟨pb, 0, none⟩, he, hxs.take i ++ hxs.drop (i + 1)⟩, X5, rfl, HS.out.1, rfl, fun b hb => hb, hx5.2.1, ?_, hx5.2.2.1, fun b hb => ?_, fun b h1 h2 => hdj b h1 h2, ?_⟩
      · exact Hd.lies.fr hx5.1 hF59 fun b h1 h2 => hdj b h2 h1
      · rcases hx5.2.2.2 b hb with h | h
        · exact .inl h
        · exact .inr (by omega)
      · exact (((HF1.out.mono fun _ _ h => h.elim).step HF15.out fun b _ h => .inr h).step hF59 fun b _ h => .inl h)
end Go.Proofs.Ytkdcacajacndmaa
