/- A child that lacks an item gets one from the child ahead of it. Conditions: as the tree's shape has them. -/
import Derived.Test.YtkdcacajacndmaaP5
import Derived.Test.YtkdcacajacndmaaN2R
import Derived.Deep.DeepCutAuto

namespace Go.Proofs.Ytkdcacajacndmaa
open Go.RowKit
theorem tkAR : (tkR).apart := ⟨by decide, by decide, by decide⟩
/-- a node told anew, in memory of its own or new. -/
def AnewR (w wx : World) (X : Hd ItR) (xs : List ItR) (ps : List Nat) : Prop := ∃ X' : Hd ItR, X'.lies tkR wx ps ∧ X'.xs = xs ∧ X'.g = X.g ∧ (∀ b, X'.own b → X.own b ∨ w.heap.size ≤ b) ∧ Fr X.own w wx
theorem AnewR.ofI {w w1 : World} {X : Hd ItR} {ps : List Nat} (hl : X.lies tkR w ps) {A' : Option Addr} {c' n' : Nat} {xs' : List ItR} (hn : n' = xs'.length) (hr : RowW w1 0 124 5 (.slice A' n' c') n' (itsR xs')) (hf : Fr (ablk X.A) w w1) (ho : ∀ b, ablk A' b → ablk X.A b ∨ w.heap.size ≤ b) :
    AnewR w (w1.setCell ⟨X.g, 0, none⟩ (.slice A' n' c')) X xs' ps := by
  obtain ⟨h1, h2, h3⟩ := Hd.setI tkAR hl hn hr hf ho
  exact ⟨_, h1, rfl, rfl, h3, h2⟩
theorem AnewR.ofP {w w1 : World} {X : Hd ItR} {ps : List Nat} (hl : X.lies tkR w ps) {B' : Option Addr} {e' n' : Nat} {ps' : List Nat} (hn : n' = ps'.length) (hr : RowW w1 0 98 1 (.slice B' n' e') n' (ps'.map ptr)) (hf : Fr (ablk X.B) w w1) (ho : ∀ b, ablk B' b → ablk X.B b ∨ w.heap.size ≤ b) :
    AnewR w (w1.setCell ⟨X.g, 1, none⟩ (.slice B' n' e')) X X.xs ps' := by
  obtain ⟨h1, h2, h3⟩ := Hd.setP tkAR hl hn hr hf ho
  exact ⟨_, h1, rfl, rfl, h3, h2⟩
/-- an item in the place of another one. -/
theorem Hd.setxR {w : World} {X : Hd ItR} {ps : List Nat} (hl : X.lies tkR w ps) {ha : Nat} (hA : X.A = some ⟨ha, 0, none⟩) {i : Nat} {m z : ItR} (hm : X.xs[i]? = some m) :
    ({ X with xs := X.xs.set i z } : Hd ItR).lies tkR (((((w.setCell ⟨ha, i * 5, none⟩ (.string (bstr z.1))).setCell ⟨ha, i * 5 + 1, none⟩ (.bool z.2.has)).setCell ⟨ha, i * 5 + 2, none⟩ (.slice z.2.va z.2.vn z.2.vc)).setCell ⟨ha, i * 5 + 3, none⟩ (.int .i64 z.2.home)).setCell ⟨ha, i * 5 + 4, none⟩ (.int .u64 (z.2.count : Int))) ps ∧ Fr (fun b => b = ha) w (((((w.setCell ⟨ha, i * 5, none⟩ (.string (bstr z.1))).setCell ⟨ha, i * 5 + 1, none⟩ (.bool z.2.has)).setCell ⟨ha, i * 5 + 2, none⟩ (.slice z.2.va z.2.vn z.2.vc)).setCell ⟨ha, i * 5 + 3, none⟩ (.int .i64 z.2.home)).setCell ⟨ha, i * 5 + 4, none⟩ (.int .u64 (z.2.count : Int))) := by
  obtain ⟨b1, b2, b3⟩ := hl
  have hf : Fr (fun b => b = ha) w (((((w.setCell ⟨ha, i * 5, none⟩ (.string (bstr z.1))).setCell ⟨ha, i * 5 + 1, none⟩ (.bool z.2.has)).setCell ⟨ha, i * 5 + 2, none⟩ (.slice z.2.va z.2.vn z.2.vc)).setCell ⟨ha, i * 5 + 3, none⟩ (.int .i64 z.2.home)).setCell ⟨ha, i * 5 + 4, none⟩ (.int .u64 (z.2.count : Int))) := (((((Fr.refl (fun b => b = ha) w).setCell (p := ⟨ha, i * 5, none⟩) (fun _ => rfl) _).setCell (p := ⟨ha, i * 5 + 1, none⟩) (fun _ => rfl) _).setCell (p := ⟨ha, i * 5 + 2, none⟩) (fun _ => rfl) _).setCell (p := ⟨ha, i * 5 + 3, none⟩) (fun _ => rfl) _).setCell (p := ⟨ha, i * 5 + 4, none⟩) (fun _ => rfl) _
  have hil := (List.getElem?_eq_some_iff.1 hm).1
  have hA2 : ∀ b, ablk X.A b ↔ b = ha := fun b => by
    rw [hA]
    exact ⟨fun ⟨_, h, e⟩ => by injection h with h; subst h; exact e.symm, fun e => ⟨_, rfl, e.symm⟩⟩
  refine ⟨⟨?_, ?_, ?_⟩, hf⟩
  · show Bk _ _ _ #[.slice X.A (X.xs.set i z).length X.c, _]
    rw [List.length_set]
    exact b1.fr hf fun e => b2.ne_ b1 (by decide) ((hA2 _).2 e)
  · show RowW _ _ _ _ (.slice X.A (X.xs.set i z).length X.c) (X.xs.set i z).length (itsR (X.xs.set i z))
    rw [List.length_set, itsR_set X.xs i m z hm, hA]
    have b2' : RowW w 0 124 5 (.slice (some ⟨ha, 0, none⟩) X.xs.length X.c) X.xs.length (itsR X.xs) := by rw [← hA]; exact b2
    have hl2 := itsR_len X.xs
    exact ((((b2'.put (i * 5) _ (by rw [hl2]; omega) rfl).put (i * 5 + 1) _ (by simp only [List.length_set]; rw [hl2]; omega) rfl).put (i * 5 + 2) _ (by simp only [List.length_set]; rw [hl2]; omega) rfl).put (i * 5 + 3) _ (by simp only [List.length_set]; rw [hl2]; omega) rfl).put (i * 5 + 4) _ (by simp only [List.length_set]; rw [hl2]; omega) rfl
  · refine b3.fr hf fun k hk e => ?_
    obtain ⟨cur, h1⟩ := b3.blk' hk
    exact b2.ne_ h1 (by decide) ((hA2 _).2 e)
def ShRRPost (w : World) (h l r : Hd ItR) (ps lps rps : List Nat) (i : Nat) (li : List ItR) (z m : ItR) (e : Ending) (w' : World) : Prop :=
  (∃ v, e = .returned v) ∧ ∃ l' r' : Hd ItR, ({ h with xs := h.xs.set i z } : Hd ItR).lies tkR w' ps ∧ l'.xs = li ∧ l'.lies tkR w' (lps.take (lps.length - 1)) ∧ l'.g = l.g ∧ (∀ b, l'.own b → l.own b ∨ w.heap.size ≤ b) ∧
    r'.xs = m :: r.xs ∧ r'.lies tkR w' (lps.drop (lps.length - 1) ++ rps) ∧ r'.g = r.g ∧ (∀ b, r'.own b → r.own b ∨ w.heap.size ≤ b) ∧ Dj l'.own r'.own ∧ Fr (fun b => h.own b ∨ l.own b ∨ r.own b) w w'
set_option maxRecDepth 100000 in
set_option maxHeartbeats 1000000 in
theorem shRR_any (w : World) (h l r : Hd ItR) (ps lps rps : List Nat) (i : Nat) (li : List ItR) (z m : ItR) (hh : h.lies tkR w ps) (hl : l.lies tkR w lps) (hr : r.lies tkR w rps) (hi : ps[i]? = some l.g) (hi1 : ps[i + 1]? = some r.g) (hm : h.xs[i]? = some m) (hlx : l.xs = li ++ [z])
    (hn : h.xs.length ≤ 17) (hln : l.xs.length ≤ 17) (hrn : r.xs.length ≤ 17) (hq : (lps = [] ∧ rps = []) ∨ (lps.length = l.xs.length + 1 ∧ rps.length = r.xs.length + 1)) (d1 : Dj h.own l.own) (d2 : Dj h.own r.own) (d3 : Dj l.own r.own) (hps : ps.length ≤ 100) :
    Calls Try.prog 98 #[.pointer (some ⟨h.g, 0, none⟩), .int .i64 i] w (ShRRPost w h l r ps lps rps i li z m) := by
  obtain ⟨hg, hA, hc, hB, he, hxs⟩ := h
  obtain ⟨lg, lA, lc, lB, le, lxs⟩ := l
  obtain ⟨rg, rA, rc, rB, re, rxs⟩ := r
  dsimp only at hi hi1 hm hlx hn hln hrn hq
  subst hlx
  obtain ⟨k, hk⟩ : ∃ k, k = li.length := ⟨_, rfl⟩
  obtain ⟨b1, b2, b3⟩ := hh
  obtain ⟨l1, l2, l3⟩ := hl
  obtain ⟨r1, r2, r3⟩ := hr
  have hh : (Hd.mk hg hA hc hB he hxs).lies tkR w ps := ⟨b1, b2, b3⟩
  have hl : (Hd.mk lg lA lc lB le (li ++ [z])).lies tkR w lps := ⟨l1, l2, l3⟩
  have hr : (Hd.mk rg rA rc rB re rxs).lies tkR w rps := ⟨r1, r2, r3⟩
  unfold tkR at b1 b2 b3 l1 l2 l3 r1 r2 r3
  dsimp only at b1 b2 b3 l1 l2 l3 r1 r2 r3
  have hlk : (li ++ [z]).length = k + 1 := by rw [List.length_append, hk]; rfl
  rw [hlk] at l1 l2
  obtain ⟨n, hnn⟩ : ∃ n, n = hxs.length := ⟨_, rfl⟩
  obtain ⟨np, hnp⟩ : ∃ np, np = ps.length := ⟨_, rfl⟩
  obtain ⟨nlp, hnlp⟩ : ∃ nlp, nlp = lps.length := ⟨_, rfl⟩
  obtain ⟨nr, hnr⟩ : ∃ nr, nr = rxs.length := ⟨_, rfl⟩
  obtain ⟨nrp, hnrp⟩ : ∃ nrp, nrp = rps.length := ⟨_, rfl⟩
  rw [← hnn] at b1 b2
  rw [← hnp] at b1 b3
  rw [← hnlp] at l1 l3
  rw [← hnr] at r1 r2
  rw [← hnrp] at r1 r3
  have hinp : i < np := by rw [hnp]; exact (List.getElem?_eq_some_iff.1 hi).1
  have hinp1 : i + 1 < np := by rw [hnp]; exact (List.getElem?_eq_some_iff.1 hi1).1
  have hin : i < n := by rw [hnn]; exact (List.getElem?_eq_some_iff.1 hm).1
  obtain ⟨pb, rfl⟩ := b3.addr (by omega)
  obtain ⟨ha, rfl⟩ := b2.addr (by omega)
  obtain ⟨la, rfl⟩ := l2.addr (by omega)
  obtain ⟨mk, mv⟩ := m
  obtain ⟨zk, zv⟩ := z
  have pc : w.cell? ⟨pb, i, none⟩ = some (.pointer (some ⟨lg, 0, none⟩)) := b3.cellP (ps := ps) hi
  have pc1 : w.cell? ⟨pb, i + 1, none⟩ = some (.pointer (some ⟨rg, 0, none⟩)) := b3.cellP (ps := ps) hi1
  have c1 : w.cell? ⟨hg, 1, none⟩ = some (.slice (some ⟨pb, 0, none⟩) np he) := b1.cell 1
  have hwi : IntKind.i64.wrap ((i : Int) + 1) = (i : Int) + 1 := IntWalk.i64_in _ (by omega)
  have hwk : IntKind.i64.wrap (k : Int) = (k : Int) := IntWalk.i64_in _ (by omega)
  have HH := Lib.hid hh
  have HL := Lib.hid hl
  have HR := Lib.hid hr
  have HN : Hid (n = hxs.length ∧ nlp = lps.length ∧ nr = rxs.length ∧ nrp = rps.length ∧ k = li.length ∧ np = ps.length) := ⟨hnn, hnlp, hnr, hnrp, hk, hnp⟩
  have HM := Lib.hid hm
  have HQ := Lib.hid hq
  have HD := Lib.hid (And.intro d1 (And.intro d2 d3))
  have HSZ : Hid (n ≤ 17 ∧ k ≤ 16 ∧ nr ≤ 17 ∧ np ≤ 100) := ⟨by omega, by omega, by omega, by omega⟩
  clear b1 b2 b3 l1 l2 l3 r1 r2 r3 hh hl hr hm hq d1 d2 d3 hnn hnlp hnr hnrp hk hnp hlk hi hi1 hn hln hrn hps
  go_enter Try.func98, Try.ntmps98
  go_wp2_with fail
  go_quiet (fail)
  have HF1 : Hid (Fr NoBlk w (w.drewN nq)) := (Fr.refl NoBlk w).drewN nq
  obtain ⟨w1, hw1⟩ : ∃ w1, w1 = w.drewN nq := ⟨_, rfl⟩
  rw [← hw1] at HF1 ⊢
  clear hw1 pc pc1 c1
  have HH1 := Lib.hid (HH.out.fr HF1.out fun _ _ e => e)
  have HL1 := Lib.hid (HL.out.fr HF1.out fun _ _ e => e)
  have HR1 := Lib.hid (HR.out.fr HF1.out fun _ _ e => e)
  obtain ⟨b1, b2, b3⟩ := HH1.out
  obtain ⟨l1, l2, l3⟩ := HL1.out
  obtain ⟨r1, r2, r3⟩ := HR1.out
  unfold tkR at b1 b2 b3 l1 l2 l3 r1 r2 r3
  dsimp only at b1 b2 b3 l1 l2 l3 r1 r2 r3
  have hlk : (li ++ [(zk, zv)]).length = k + 1 := by rw [List.length_append, HN.out.2.2.2.2.1]; rfl
  rw [hlk] at l1 l2
  rw [← HN.out.1] at b1 b2
  rw [← HN.out.2.2.2.2.2] at b1 b3
  rw [← HN.out.2.1] at l1 l3
  rw [← HN.out.2.2.1] at r1 r2
  rw [← HN.out.2.2.2.1] at r1 r3
  have c0 : w1.cell? ⟨lg, 0, none⟩ = some (.slice (some ⟨la, 0, none⟩) (k + 1) lc) := l1.cell 0
  have e0 : w1.cell? ⟨hg, 0, none⟩ = some (.slice (some ⟨ha, 0, none⟩) n hc) := b1.cell 0
  have e1 : (w1.alloc (.cells #[.string (bstr mk), .bool mv.has, .slice mv.va mv.vn mv.vc, .int .i64 mv.home, .int .u64 (mv.count : Int)] 124)).cell? ⟨hg, 0, none⟩ = some (.slice (some ⟨ha, 0, none⟩) n hc) := (b1.alloc _).cell 0
  have f0 : w1.cell? ⟨rg, 0, none⟩ = some (.slice rA nr rc) := r1.cell 0
  have f1 : (w1.alloc (.cells #[.string (bstr mk), .bool mv.has, .slice mv.va mv.vn mv.vc, .int .i64 mv.home, .int .u64 (mv.count : Int)] 124)).cell? ⟨rg, 0, none⟩ = some (.slice rA nr rc) := (r1.alloc _).cell 0
  have m0 : w1.cell? ⟨ha, i * 5, none⟩ = some (.string (bstr mk)) := (b2.cellR HM.out).1
  have m1 : w1.cell? ⟨ha, i * 5 + 1, none⟩ = some (.bool mv.has) := (b2.cellR HM.out).2.1
  have m1x1 : w1.cell? ⟨ha, i * 5 + 2, none⟩ = some (.slice mv.va mv.vn mv.vc) := (b2.cellR HM.out).2.2.1
  have m1x2 : w1.cell? ⟨ha, i * 5 + 3, none⟩ = some (.int .i64 mv.home) := (b2.cellR HM.out).2.2.2.1
  have m1x3 : w1.cell? ⟨ha, i * 5 + 4, none⟩ = some (.int .u64 (mv.count : Int)) := (b2.cellR HM.out).2.2.2.2
  have HINS : Hid (∀ W, Fr NoBlk w1 W → Bk W w1.heap.size 124 #[.string (bstr mk), .bool mv.has, .slice mv.va mv.vn mv.vc, .int .i64 mv.home, .int .u64 (mv.count : Int)] → Calls Try.prog 86 #[.slice rA nr rc, .int .i64 0, .slice (some ⟨w1.heap.size, 0, none⟩) 1 1] W (InsQ w1 124 5 rA nr (itsR ((mk, mv) :: rxs)))) := fun W hf hb =>
    (insIR_any W 0 rA nr rc 0 (itsR rxs) (r2.fr hf fun _ _ h => h) (Nat.zero_le _) (Nat.zero_le _) (by have := HSZ.out; omega) w1.heap.size #[.string (bstr mk), .bool mv.has, .slice mv.va mv.vn mv.vc, .int .i64 mv.home, .int .u64 (mv.count : Int)] hb rfl (by intro u hu; simp only [List.mem_cons, List.not_mem_nil, or_false] at hu; rcases hu with rfl | rfl | rfl | rfl | rfl <;> rfl) (fun h => by have := (r2.lt (ablk_own h)).2; omega)).mono fun e w' h => h.from_ hf
  have hrne : ¬ ablk rA rg := r2.ne_ r1 (by decide)
  have HRB := Lib.hid (And.intro r1 hrne)
  clear b1 b2 b3 l1 l2 l3 r1 r2 r3 hlk hrne
  go_upto_region 2 with fail
  go_cut [28] (fun s wx => s = .pointer (some ⟨rg, 0, none⟩) ∧ Hid (AnewR w1 wx ⟨rg, rA, rc, rB, re, rxs⟩ ((mk, mv) :: rxs) rps))
  case first =>
    go_region_with (refine (HINS.out _ ?_ ?_).mono ?_; (first | exact ((Fr.refl _ _).alloc _).drew | exact (Fr.refl _ _).drew.alloc _); (first | exact Bk.fr (Bk.new _ _ _) (Fr.refl NoBlk _).drew (fun h => h) | exact Bk.new _ _ _); rintro e w8 ⟨A8, c8, rfl, hr8, hf8, hb8⟩; have HR8 := Lib.hid hr8; have HF8 := Lib.hid hf8; have HB8 := Lib.hid hb8; clear hr8 hf8 hb8; have HN8 := Lib.hid (HRB.out.1.fr HF8.out (fun h => HRB.out.2 h)); have c8' := HN8.out.cell 0; have f8' := HN8.out.free 0)
    all_goals
      go_wp2_with fail
      go_meet
      exact ⟨rfl, AnewR.ofI HR1.out (by show nr + 1 = rxs.length + 1; rw [HN.out.2.2.1]) HR8.out HF8.out HB8.out⟩
  case rest =>
    obtain ⟨w3, rfl⟩ : ∃ w3, w3 = wc := ⟨_, rfl⟩
    obtain ⟨rfl, HCR⟩ := hcut
    obtain ⟨⟨rg', rA', rc', rB', re', rxs'⟩, hr9, hrx, hrg, hro, hrf⟩ := HCR.out
    dsimp only at hrx hrg
    subst hrx hrg
    have HR9 := Lib.hid hr9
    have HRO := Lib.hid hro
    have HRF := Lib.hid hrf
    have HH2 : Hid ((Hd.mk hg (some ⟨ha, 0, none⟩) hc (some ⟨pb, 0, none⟩) he hxs).lies tkR w3 ps) := Hd.lies.fr HH1.out hrf fun b h1 h2 => HD.out.2.1 b h1 h2
    have HL2 : Hid ((Hd.mk lg (some ⟨la, 0, none⟩) lc lB le (li ++ [(zk, zv)])).lies tkR w3 lps) := Hd.lies.fr HL1.out hrf fun b h1 h2 => HD.out.2.2 b h1 h2
    clear hr9 hro hrf HCR HRB HINS e0 e1 f0 f1 m0 m1 m1x3 m1x2 m1x1 c0
    obtain ⟨b1, b2, b3⟩ := HH2.out
    obtain ⟨l1, l2, l3⟩ := HL2.out
    unfold tkR at b1 b2 b3 l1 l2 l3
    dsimp only at b1 b2 b3 l1 l2 l3
    have hlk : (li ++ [(zk, zv)]).length = k + 1 := by rw [List.length_append, HN.out.2.2.2.2.1]; rfl
    rw [hlk] at l1 l2
    rw [← HN.out.1] at b1 b2
    have hzk : (li ++ [(zk, zv)])[k]? = some (zk, zv) := by rw [HN.out.2.2.2.2.1, List.getElem?_append_right (Nat.le_refl _), Nat.sub_self]; rfl
    have c0 : w3.cell? ⟨lg, 0, none⟩ = some (.slice (some ⟨la, 0, none⟩) (k + 1) lc) := l1.cell 0
    have e0 : w3.cell? ⟨hg, 0, none⟩ = some (.slice (some ⟨ha, 0, none⟩) n hc) := b1.cell 0
    have z0 : w3.cell? ⟨la, k * 5, none⟩ = some (.string (bstr zk)) := (l2.cellR hzk).1
    have z1 : w3.cell? ⟨la, k * 5 + 1, none⟩ = some (.bool zv.has) := (l2.cellR hzk).2.1
    have z1x1 : w3.cell? ⟨la, k * 5 + 2, none⟩ = some (.slice zv.va zv.vn zv.vc) := (l2.cellR hzk).2.2.1
    have z1x2 : w3.cell? ⟨la, k * 5 + 3, none⟩ = some (.int .i64 zv.home) := (l2.cellR hzk).2.2.2.1
    have z1x3 : w3.cell? ⟨la, k * 5 + 4, none⟩ = some (.int .u64 (zv.count : Int)) := (l2.cellR hzk).2.2.2.2
    have m0 : w3.cell? ⟨ha, i * 5, none⟩ = some (.string (bstr mk)) := (b2.cellR HM.out).1
    have m1 : w3.cell? ⟨ha, i * 5 + 1, none⟩ = some (.bool mv.has) := (b2.cellR HM.out).2.1
    have m1x1 : w3.cell? ⟨ha, i * 5 + 2, none⟩ = some (.slice mv.va mv.vn mv.vc) := (b2.cellR HM.out).2.2.1
    have m1x2 : w3.cell? ⟨ha, i * 5 + 3, none⟩ = some (.int .i64 mv.home) := (b2.cellR HM.out).2.2.2.1
    have m1x3 : w3.cell? ⟨ha, i * 5 + 4, none⟩ = some (.int .u64 (mv.count : Int)) := (b2.cellR HM.out).2.2.2.2
    have g0 := b2.frz (i * 5)
    have g1 := b2.frz (i * 5 + 1)
    have g1x1 := b2.frz (i * 5 + 2)
    have g1x2 := b2.frz (i * 5 + 3)
    have g1x3 := b2.frz (i * 5 + 4)
    have c0d : w3.drew.cell? ⟨lg, 0, none⟩ = some (.slice (some ⟨la, 0, none⟩) (k + 1) lc) := c0
    have e0d : w3.drew.cell? ⟨hg, 0, none⟩ = some (.slice (some ⟨ha, 0, none⟩) n hc) := e0
    have z0d : w3.drew.cell? ⟨la, k * 5, none⟩ = some (.string (bstr zk)) := z0
    have z1d : w3.drew.cell? ⟨la, k * 5 + 1, none⟩ = some (.bool zv.has) := z1
    have z1dx1 : w3.drew.cell? ⟨la, k * 5 + 2, none⟩ = some (.slice zv.va zv.vn zv.vc) := z1x1
    have z1dx2 : w3.drew.cell? ⟨la, k * 5 + 3, none⟩ = some (.int .i64 zv.home) := z1x2
    have z1dx3 : w3.drew.cell? ⟨la, k * 5 + 4, none⟩ = some (.int .u64 (zv.count : Int)) := z1x3
    have m0d : w3.drew.cell? ⟨ha, i * 5, none⟩ = some (.string (bstr mk)) := m0
    have m1d : w3.drew.cell? ⟨ha, i * 5 + 1, none⟩ = some (.bool mv.has) := m1
    have m1dx1 : w3.drew.cell? ⟨ha, i * 5 + 2, none⟩ = some (.slice mv.va mv.vn mv.vc) := m1x1
    have m1dx2 : w3.drew.cell? ⟨ha, i * 5 + 3, none⟩ = some (.int .i64 mv.home) := m1x2
    have m1dx3 : w3.drew.cell? ⟨ha, i * 5 + 4, none⟩ = some (.int .u64 (mv.count : Int)) := m1x3
    have g0d : w3.drew.frozen? ⟨ha, i * 5, none⟩ = false := g0
    have g1d : w3.drew.frozen? ⟨ha, i * 5 + 1, none⟩ = false := g1
    have g1dx1 : w3.drew.frozen? ⟨ha, i * 5 + 2, none⟩ = false := g1x1
    have g1dx2 : w3.drew.frozen? ⟨ha, i * 5 + 3, none⟩ = false := g1x2
    have g1dx3 : w3.drew.frozen? ⟨ha, i * 5 + 4, none⟩ = false := g1x3
    have HSET := Lib.hid (Hd.setxR (X := ⟨hg, some ⟨ha, 0, none⟩, hc, some ⟨pb, 0, none⟩, he, hxs⟩) (z := (zk, zv)) HH2.out rfl HM.out)
    clear b1 b2 b3 l1 l2 l3 hlk hzk
    go_upto_region 3 with fail
    go_cut [44] (fun s wx => s = .pointer (some ⟨hg, 0, none⟩) ∧ Hid ((Hd.mk hg (some ⟨ha, 0, none⟩) hc (some ⟨pb, 0, none⟩) he (hxs.set i (zk, zv))).lies tkR wx ps ∧ Fr (fun b => b = ha) w3 wx))
    case first =>
      go_region
      all_goals
        go_wp2_with fail
        go_meet
        exact ⟨rfl, Hd.lies.fr HSET.out.1 (Fr.refl NoBlk _).drew fun _ _ e => e, HSET.out.2.drew⟩
    case rest =>
      obtain ⟨w4, rfl⟩ : ∃ w4, w4 = wc := ⟨_, rfl⟩
      obtain ⟨rfl, HCS⟩ := hcut
      have HH4 : Hid ((Hd.mk hg (some ⟨ha, 0, none⟩) hc (some ⟨pb, 0, none⟩) he (hxs.set i (zk, zv))).lies tkR w4 ps) := HCS.out.1
      have hao : (Hd.mk hg (some ⟨ha, 0, none⟩) hc (some ⟨pb, 0, none⟩) he hxs).own ha := .inr (.inl ⟨_, rfl, rfl⟩)
      have hal : ha < w1.heap.size := HH1.out.lt hao
      have HL4 : Hid ((Hd.mk lg (some ⟨la, 0, none⟩) lc lB le (li ++ [(zk, zv)])).lies tkR w4 lps) := Hd.lies.fr HL2.out HCS.out.2 fun b h1 h2 => HD.out.1 ha hao (h2 ▸ h1)
      have HR4 : Hid ((Hd.mk rg' rA' rc' rB' re' ((mk, mv) :: rxs)).lies tkR w4 rps) := Hd.lies.fr HR9.out HCS.out.2 fun b h1 h2 => by
        rcases HRO.out b h1 with h | h
        · exact HD.out.2.1 ha hao (h2 ▸ h)
        · omega
      have HF14 : Hid (Fr (fun b => (Hd.mk hg (some ⟨ha, 0, none⟩) hc (some ⟨pb, 0, none⟩) he hxs).own b ∨ (Hd.mk rg' rA rc rB re rxs).own b) w1 w4) := (HRF.out.mono fun _ _ h => .inr h).step HCS.out.2 fun b _ e => .inl (e ▸ hao)
      clear hao hal c0 e0 z0 z1 z1x3 z1x2 z1x1 m0 m1 m1x3 m1x2 m1x1 g0 g1 g1x3 g1x2 g1x1 c0d e0d z0d z1d z1dx3 z1dx2 z1dx1 m0d m1d m1dx3 m1dx2 m1dx1 g0d g1d g1dx3 g1dx2 g1dx1 HSET HCS HRF HR9 HH2 HL2
      obtain ⟨l1, l2, l3⟩ := HL4.out
      unfold tkR at l1 l2 l3
      dsimp only at l1 l2 l3
      have hlk : (li ++ [(zk, zv)]).length = k + 1 := by rw [List.length_append, HN.out.2.2.2.2.1]; rfl
      rw [hlk] at l1 l2
      rw [← HN.out.2.1] at l1 l3
      have c0 : w4.cell? ⟨lg, 0, none⟩ = some (.slice (some ⟨la, 0, none⟩) (k + 1) lc) := l1.cell 0
      have HDEL : Hid (Calls Try.prog 90 #[.slice (some ⟨la, 0, none⟩) (k + 1) lc, .int .i64 (k : Int), .int .i64 ((k : Int) + 1)] w4 fun en w' => en = .returned (.slice (some ⟨la, 0, none⟩) k lc) ∧ RowW w' 0 124 5 (.slice (some ⟨la, 0, none⟩) k lc) k (itsR li) ∧ Fr (fun j => j = la) w4 w') := by
        have h := delIR_any w4 0 la (k + 1) lc k (itsR (li ++ [(zk, zv)])) l2 (Nat.lt_succ_self k) (by have := HSZ.out; omega)
        rw [← itsR_take, ← itsR_drop, List.drop_eq_nil_of_le (by rw [hlk]; exact Nat.le_refl _), HN.out.2.2.2.2.1, List.take_left, show itsR [] = [] from rfl, List.append_nil] at h
        rw [HN.out.2.2.2.2.1]
        exact h
      have hw1 : IntKind.i64.wrap ((k : Int) + 1) = (k : Int) + 1 := by have := HSZ.out; exact IntWalk.i64_in _ (by omega)
      have hw2 : IntKind.i64.wrap ((k : Int) + 2) = (k : Int) + 2 := by have := HSZ.out; exact IntWalk.i64_in _ (by omega)
      have HLB := Lib.hid (And.intro l1 (l2.ne_ l1 (by decide)))
      clear l1 l2 l3 hlk
      go_wp2_with fail
      refine HDEL.out.mono ?_
      clear HDEL
      rintro e w5 ⟨rfl, hr5, hf5⟩
      obtain ⟨W6, hW6⟩ : ∃ W6, W6 = w5.setCell ⟨lg, 0, none⟩ (.slice (some ⟨la, 0, none⟩) k lc) := ⟨_, rfl⟩
      have hset := Hd.setI tkAR HL4.out (A' := some ⟨la, 0, none⟩) (c' := lc) (n' := k) (xs' := li) HN.out.2.2.2.2.1 hr5 (hf5.mono fun b _ e => ⟨_, rfl, e.symm⟩) (fun b hb => .inl hb)
      rw [← hW6] at hset
      have HL6 : Hid ((Hd.mk lg (some ⟨la, 0, none⟩) lc lB le li).lies tkR W6 lps) := hset.1
      have HF46 : Hid (Fr (Hd.mk lg (some ⟨la, 0, none⟩) lc lB le (li ++ [(zk, zv)])).own w4 W6) := hset.2.1
      have HB5 : Hid (Bk w5 lg 102 #[.slice (some ⟨la, 0, none⟩) (k + 1) lc, .slice lB nlp le]) := HLB.out.1.fr hf5 fun e => HLB.out.2 ⟨_, rfl, e.symm⟩
      have HB6 : Hid (Bk W6 lg 102 #[.slice (some ⟨la, 0, none⟩) k lc, .slice lB nlp le]) := by
        have h := HL6.out.1
        show Bk _ _ _ _
        rw [HN.out.2.2.2.2.1, HN.out.2.1]
        exact h
      have hd14 : ∀ b, (Hd.mk rg' rA' rc' rB' re' ((mk, mv) :: rxs)).own b → (Hd.mk rg' rA rc rB re rxs).own b ∨ w1.heap.size ≤ b := HRO.out
      have HR6 : Hid ((Hd.mk rg' rA' rc' rB' re' ((mk, mv) :: rxs)).lies tkR W6 rps) := Hd.lies.fr HR4.out HF46.out fun b h1 h2 => by
        rcases hd14 b h1 with h | h
        · exact HD.out.2.2 b h2 h
        · have := HL1.out.lt h2; omega
      have HH6 : Hid ((Hd.mk hg (some ⟨ha, 0, none⟩) hc (some ⟨pb, 0, none⟩) he (hxs.set i (zk, zv))).lies tkR W6 ps) := Hd.lies.fr HH4.out HF46.out fun b h1 h2 => HD.out.1 b h1 h2
      have c5 := HB5.out.cell 0
      have f5 := HB5.out.free 0
      have HLF := Lib.hid (leafR_any W6 lg _ k lc lB nlp le HB6.out)
      have HFall : Hid (Fr (fun b => (Hd.mk hg (some ⟨ha, 0, none⟩) hc (some ⟨pb, 0, none⟩) he hxs).own b ∨ (Hd.mk lg (some ⟨la, 0, none⟩) lc lB le (li ++ [(zk, zv)])).own b ∨ (Hd.mk rg' rA rc rB re rxs).own b) w W6) :=
        ((HF1.out.mono fun _ _ h => h.elim).step HF14.out fun b _ h => by rcases h with h | h; exact .inl h; exact .inr (.inr h)).step HF46.out fun b _ h => .inr (.inl h)
      have HDL : Hid (Dj (Hd.mk lg (some ⟨la, 0, none⟩) lc lB le li).own (Hd.mk rg' rA' rc' rB' re' ((mk, mv) :: rxs)).own) := fun b h1 h2 => by
        rcases hd14 b h2 with h | h
        · exact HD.out.2.2 b h1 h
        · have := HL1.out.lt (b := b) h1; omega
      clear hset hr5 hf5 hd14 HL4 HH4 HR4 HB5 HLB
      rcases HQ.out with ⟨hq1, hq2⟩ | ⟨hq1, hq2⟩
      · obtain rfl : nlp = 0 := by rw [HN.out.2.1, hq1]; rfl
        have HLF0 : Hid (Calls Try.prog 72 #[.pointer (some ⟨lg, 0, none⟩)] W6 fun en w' => en = .returned (.bool true) ∧ W6 = w') := HLF.out
        have HQ1 := Lib.hid (And.intro hq1 hq2)
        clear HLF hq1 hq2
        go_wp2_with fail
        rw [← hW6]
        refine HLF0.out.mono ?_
        rintro e w7 ⟨rfl, rfl⟩
        clear hW6 c5 f5
        go_wp2_with fail
        go_end0
        have e1 := HQ1.out.1
        have e2 := HQ1.out.2
        have hsz1 := HF1.out.size
        refine ⟨⟨_, rfl⟩, ⟨lg, some ⟨la, 0, none⟩, lc, lB, le, li⟩, ⟨rg', rA', rc', rB', re', (mk, mv) :: rxs⟩, HH6.out, rfl, ?_, rfl, fun b hb => .inl hb, rfl, ?_, rfl, fun b hb => ?_, HDL.out, HFall.out⟩
        · rw [e1]; rw [e1] at HL6; exact HL6.out
        · rw [e1, e2]; rw [e2] at HR6; exact HR6.out
        · rcases HRO.out b hb with h | h
          · exact .inl h
          · exact .inr (by omega)
      · have hlk : (li ++ [(zk, zv)]).length = k + 1 := by rw [List.length_append, HN.out.2.2.2.2.1]; rfl
        have hnlp : nlp = k + 2 := by rw [HN.out.2.1, hq1, hlk]
        subst hnlp
        have hll : lps.length = k + 2 := HN.out.2.1.symm
        obtain ⟨q, hqq⟩ : ∃ q, lps[k + 1]? = some q := ⟨_, List.getElem?_eq_getElem (by omega)⟩
        have HLF0 : Hid (Calls Try.prog 72 #[.pointer (some ⟨lg, 0, none⟩)] W6 fun en w' => en = .returned (.bool false) ∧ W6 = w') := by
          have h := HLF.out
          rw [decide_eq_false (show ¬ k + 2 = 0 by omega)] at h
          exact h
        have HLL := Lib.hid hll
        have HQQ := Lib.hid hqq
        have hnrp : nrp = nr + 1 := by rw [HN.out.2.2.2.1, hq2, HN.out.2.2.1]
        have HNR : Hid (nrp = rps.length ∧ nrp ≤ 18) := ⟨HN.out.2.2.2.1, by have := HSZ.out; omega⟩
        clear HLF hq1 hq2 hlk hll hqq hnrp
        go_wp2_with fail
        rw [← hW6]
        refine HLF0.out.mono ?_
        rintro e w7 ⟨rfl, rfl⟩
        clear hW6 c5 f5 HLF0
        obtain ⟨l1, l2, l3⟩ := HL6.out
        obtain ⟨r1, r2, r3⟩ := HR6.out
        unfold tkR at l1 l2 l3 r1 r2 r3
        dsimp only at l1 l2 l3 r1 r2 r3
        rw [HLL.out] at l1 l3
        rw [← HN.out.2.2.2.2.1] at l1 l2
        rw [← HNR.out.1] at r1 r3
        obtain ⟨nx, hnx⟩ : ∃ nx, nx = ((mk, mv) :: rxs).length := ⟨_, rfl⟩
        rw [← hnx] at r1
        obtain ⟨lb, rfl⟩ := l3.addr (by omega)
        have c1 : W6.cell? ⟨lg, 1, none⟩ = some (.slice (some ⟨lb, 0, none⟩) (k + 2 : Nat) le) := l1.cell 1
        have c1a : (W6.alloc (.cells #[.pointer (some ⟨q, 0, none⟩)] 98)).cell? ⟨lg, 1, none⟩ = some (.slice (some ⟨lb, 0, none⟩) (k + 2 : Nat) le) := (l1.alloc _).cell 1
        have qc : W6.cell? ⟨lb, k + 1, none⟩ = some (.pointer (some ⟨q, 0, none⟩)) := l3.cellP HQQ.out
        have f1 : W6.cell? ⟨rg', 1, none⟩ = some (.slice rB' nrp re') := r1.cell 1
        have f1a : (W6.alloc (.cells #[.pointer (some ⟨q, 0, none⟩)] 98)).cell? ⟨rg', 1, none⟩ = some (.slice rB' nrp re') := (r1.alloc _).cell 1
        have hkl : k + 1 < k + 2 := Nat.lt_succ_self _
        have HINS : Hid (∀ W, Fr NoBlk W6 W → Bk W W6.heap.size 98 #[.pointer (some ⟨q, 0, none⟩)] → Calls Try.prog 89 #[.slice rB' nrp re', .int .i64 0, .slice (some ⟨W6.heap.size, 0, none⟩) 1 1] W (InsQ W6 98 1 rB' nrp ((q :: rps).map ptr))) := fun W hf hb =>
          (insPR_any W 0 rB' nrp re' 0 (rps.map ptr) (r3.fr hf fun _ _ h => h) (Nat.zero_le _) (Nat.zero_le _) (by have := HNR.out.2; omega) W6.heap.size #[.pointer (some ⟨q, 0, none⟩)] hb rfl (by intro u hu; simp only [List.mem_cons, List.not_mem_nil, or_false] at hu; rcases hu with rfl; rfl) (fun h => by have := (r3.lt (ablk_own h)).2; omega)).mono fun e w' h => h.from_ hf
        have HRB := Lib.hid (And.intro r1 (r3.ne_ r1 (by decide)))
        clear l1 l2 l3 r1 r2 r3 hnx
        go_upto_region 6 with fail
        go_cut [71] (fun s wx => s = .pointer (some ⟨rg', 0, none⟩) ∧ Hid (AnewR W6 wx ⟨rg', rA', rc', rB', re', (mk, mv) :: rxs⟩ ((mk, mv) :: rxs) (q :: rps)))
        case first =>
          go_region_with (refine (HINS.out _ ?_ ?_).mono ?_; (first | exact ((Fr.refl _ _).alloc _).drew | exact (Fr.refl _ _).drew.alloc _); (first | exact Bk.fr (Bk.new _ _ _) (Fr.refl NoBlk _).drew (fun h => h) | exact Bk.new _ _ _); rintro e w8 ⟨B8, c8, rfl, hr8, hf8, hb8⟩; have HR8 := Lib.hid hr8; have HF8 := Lib.hid hf8; have HB8 := Lib.hid hb8; clear hr8 hf8 hb8; have HN8 := Lib.hid (HRB.out.1.fr HF8.out (fun h => HRB.out.2 h)); have c8' := HN8.out.cell 1; have f8' := HN8.out.free 1)
          all_goals
            go_wp2_with fail
            go_meet
            exact ⟨rfl, AnewR.ofP HR6.out (by show nrp + 1 = rps.length + 1; rw [HNR.out.1]) HR8.out HF8.out HB8.out⟩
        case rest =>
          obtain ⟨w8, rfl⟩ : ∃ w8, w8 = wc := ⟨_, rfl⟩
          obtain ⟨rfl, HCT⟩ := hcut
          obtain ⟨X8, hr8, hrx8, hrg8, hro8, hrf8⟩ := HCT.out
          have HX8 := Lib.hid (And.intro hr8 (And.intro hrx8 (And.intro hrg8 hro8)))
          have HF68 := Lib.hid hrf8
          have HL8 : Hid ((Hd.mk lg (some ⟨la, 0, none⟩) lc (some ⟨lb, 0, none⟩) le li).lies tkR w8 lps) := Hd.lies.fr HL6.out hrf8 fun b h1 h2 => HDL.out b h1 h2
          have HH8 : Hid ((Hd.mk hg (some ⟨ha, 0, none⟩) hc (some ⟨pb, 0, none⟩) he (hxs.set i (zk, zv))).lies tkR w8 ps) := Hd.lies.fr HH6.out hrf8 fun b h1 h2 => by
            rcases HRO.out b h2 with h | h
            · exact HD.out.2.1 b h1 h
            · have := HH1.out.lt (b := b) h1; omega
          clear hr8 hrx8 hrg8 hro8 hrf8 HCT c1 c1a qc f1 f1a HINS HRB HH6
          obtain ⟨l1, l2, l3⟩ := HL8.out
          unfold tkR at l1 l2 l3
          dsimp only at l1 l2 l3
          rw [HLL.out] at l1 l3
          rw [← HN.out.2.2.2.2.1] at l1 l2
          have c1 : w8.cell? ⟨lg, 1, none⟩ = some (.slice (some ⟨lb, 0, none⟩) (k + 2 : Nat) le) := l1.cell 1
          have HDP : Hid (Calls Try.prog 103 #[.slice (some ⟨lb, 0, none⟩) (k + 2 : Nat) le, .int .i64 ((k : Int) + 1), .int .i64 ((k : Int) + 2)] w8 fun en w' => en = .returned (.slice (some ⟨lb, 0, none⟩) (k + 1) le) ∧ RowW w' 0 98 1 (.slice (some ⟨lb, 0, none⟩) (k + 1) le) (k + 1) ((lps.take (k + 1)).map ptr) ∧ Fr (fun j => j = lb) w8 w') := by
            have h := delPR_any w8 0 lb (k + 2) le (k + 1) (lps.map ptr) l3 (Nat.lt_succ_self _) (by have := HSZ.out; omega)
            rw [← List.map_take, ← List.map_drop, List.drop_eq_nil_of_le (by rw [HLL.out]; exact Nat.le_refl _), List.map_nil, List.append_nil] at h
            exact h
          have HLB := Lib.hid (And.intro l1 (l3.ne_ l1 (by decide)))
          clear l1 l2 l3
          go_wp2_with fail
          refine HDP.out.mono ?_
          clear HDP
          rintro e w9 ⟨rfl, hr9, hf9⟩
          obtain ⟨W9, hW9⟩ : ∃ W9, W9 = w9.setCell ⟨lg, 1, none⟩ (.slice (some ⟨lb, 0, none⟩) (k + 1) le) := ⟨_, rfl⟩
          have hset := Hd.setP tkAR HL8.out (B' := some ⟨lb, 0, none⟩) (e' := le) (n' := k + 1) (ps' := lps.take (k + 1)) (by rw [List.length_take, HLL.out]; omega) hr9 (hf9.mono fun b _ e => ⟨_, rfl, e.symm⟩) (fun b hb => .inl hb)
          rw [← hW9] at hset
          have HS := Lib.hid hset
          have HB9 : Hid (Bk w9 lg 102 #[.slice (some ⟨la, 0, none⟩) k lc, .slice (some ⟨lb, 0, none⟩) (k + 2) le]) := HLB.out.1.fr hf9 fun e => HLB.out.2 ⟨_, rfl, e.symm⟩
          have c9 := HB9.out.cell 1
          have f9 := HB9.out.free 1
          clear hset hr9 hf9
          go_wp2_with fail
          go_end0
          rw [← hW9]
          have hsz1 := HF1.out.size
          have hsz6 : w1.heap.size ≤ W6.heap.size := Nat.le_trans HF14.out.size HF46.out.size
          have hx8 := HX8.out
          have hro : ∀ b, X8.own b → (Hd.mk rg' rA rc rB re rxs).own b ∨ w.heap.size ≤ b := fun b hb => by
            rcases hx8.2.2.2 b hb with h | h
            · rcases HRO.out b h with h | h
              · exact .inl h
              · exact .inr (by omega)
            · exact .inr (by omega)
          have e1 : lps.take (lps.length - 1) = lps.take (k + 1) := by rw [HLL.out]; rfl
          have e2 : lps.drop (lps.length - 1) ++ rps = q :: rps := by
            rw [HLL.out]
            show lps.drop (k + 1) ++ rps = q :: rps
            have h1 := list_mid (xs := lps.drop (k + 1)) (i := 0) (x := q) (by rw [List.getElem?_drop]; exact HQQ.out)
            have h2 : (lps.drop (k + 1)).drop (0 + 1) = [] := List.drop_eq_nil_of_le (by rw [List.length_drop, HLL.out]; omega)
            rw [h2, List.take_zero] at h1
            rw [h1]; rfl
          have hF9 := HS.out.2.1
          refine ⟨⟨_, rfl⟩, ⟨lg, some ⟨la, 0, none⟩, lc, some ⟨lb, 0, none⟩, le, li⟩, X8, ?_, rfl, ?_, rfl, fun b hb => .inl hb, hx8.2.1, ?_, hx8.2.2.1, hro, fun b h1 h2 => ?_, ?_⟩
          · exact Hd.lies.fr HH8.out hF9 fun b h1 h2 => HD.out.1 b h1 h2
          · rw [e1]; exact HS.out.1
          · rw [e2]
            refine Hd.lies.fr hx8.1 hF9 fun b h1 h2 => ?_
            rcases hro b h1 with h | h
            · exact HD.out.2.2 b h2 h
            · have := HL.out.lt (b := b) h2; omega
          · rcases hro b h2 with h | h
            · exact HD.out.2.2 b h1 h
            · have := HL.out.lt (b := b) h1; omega
          · refine (HFall.out.step HF68.out fun b hb h => ?_).step hF9 fun b _ h => .inr (.inl h)
            rcases HRO.out b h with h | h
            · exact .inr (.inr h)
            · omega
end Go.Proofs.Ytkdcacajacndmaa
