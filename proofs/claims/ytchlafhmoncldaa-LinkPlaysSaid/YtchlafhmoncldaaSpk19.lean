/- The document's example for links. No condition. -/
import Derived.Test.YtchlafhmoncldaaSamePk
import Derived.Lib.SlBytesConst
namespace Go.Proofs.Ytchlafhmoncldaa
open Go.RowKit Go.Maps Go.ChangeMaps Go.MapKept Go.WideShapes

/-- two links, each in blocks of its own, all made since w0. -/
structure Two (w0 W : World) (ga gb : Nat) (Oa Ob : Nat → Prop) (La Lb : Lk) : Prop where
  a : LkIn Oa W ga La
  b : LkIn Ob W gb Lb
  dis : ∀ k, Oa k → ¬ Ob k
  na : ∀ k, Oa k → w0.heap.size ≤ k
  nb : ∀ k, Ob k → w0.heap.size ≤ k
  fr : Fr NoBlk w0 W
theorem Two.swap {w0 W : World} {ga gb : Nat} {Oa Ob : Nat → Prop} {La Lb : Lk} (h : Two w0 W ga gb Oa Ob La Lb) : Two w0 W gb ga Ob Oa Lb La := ⟨h.b, h.a, fun k hb ha => h.dis k ha hb, h.nb, h.na, h.fr⟩
theorem Two.still {w0 W W' : World} {ga gb : Nat} {Oa Ob : Nat → Prop} {La Lb : Lk} (h : Two w0 W ga gb Oa Ob La Lb) (hf : Fr NoBlk W W') : Two w0 W' ga gb Oa Ob La Lb := ⟨h.a.nofr hf, h.b.nofr hf, h.dis, h.na, h.nb, h.fr.trans hf⟩
theorem Two.stepA {w0 W W' : World} {ga gb : Nat} {Oa Oa' Ob : Nat → Prop} {La La' Lb : Lk} (h : Two w0 W ga gb Oa Ob La Lb) (hl : LkIn Oa' W' ga La') (hO : ∀ k, Oa' k → Oa k ∨ W.heap.size ≤ k) (hf : Fr (St Oa W) W W') : Two w0 W' ga gb Oa' Ob La' Lb :=
  ⟨hl, h.b.fr hf.st fun k hb ha => h.dis k ha hb, fun k ha hb => by
    rcases hO k ha with h1 | h1
    · exact h.dis k h1 hb
    · have := h.b.ol k hb; omega, fun k hk => by
    rcases hO k hk with h1 | h1
    · exact h.na k h1
    · exact Nat.le_trans h.fr.size h1, h.nb, h.fr.step hf.st fun k hk e => by have := h.na k e; omega⟩
theorem two_new {w w1 w2 : World} {ga gb ma mb : Nat} {La Lb : Lk} (h1 : LkIn (fun k => k = ga ∨ k = ma) w1 ga La) (f1 : Fr NoBlk w w1) (a1 : w.heap.size ≤ ga) (a2 : w.heap.size ≤ ma) (h2 : LkIn (fun k => k = gb ∨ k = mb) w2 gb Lb) (f2 : Fr NoBlk w1 w2) (b1 : w1.heap.size ≤ gb) (b2 : w1.heap.size ≤ mb) :
    Two w w2 ga gb (fun k => k = ga ∨ k = ma) (fun k => k = gb ∨ k = mb) La Lb := by
  have o1 := h1.ol ga (.inl rfl)
  have o2 := h1.ol ma (.inr rfl)
  have o3 := f1.size
  exact ⟨h1.nofr f2, h2, fun k e e' => by rcases e with e | e <;> rcases e' with e' | e' <;> omega, fun k e => by rcases e with e | e <;> omega, fun k e => by rcases e with e | e <;> omega, f1.trans f2⟩
theorem PksIn.rd {W W' : World} {A : Option Addr} {c : Nat} {xs : List Pk} (h : PksIn W W' A c xs) (hl : xs.length ≤ 9223372036854775807) : PkRd W' A xs := ⟨Rd.of_ownN h.own, fun x hx => Rd.of_own (h.data x hx), hl⟩
/-- one packet built by the law. -/
theorem one_rd (w : World) (x : Pk) (hd : Rd w x.d.1 (cb x.d.2.2)) : PkRd (w.alloc (.cells (pka x) 32)) (some ⟨w.heap.size, 0, none⟩) [x] :=
  ⟨Rd.of_cells (Bk.new w _ _), fun y hy => by rw [List.mem_singleton.1 hy]; exact hd.alloc _, by simp⟩
/-- the first packet's cells. -/
theorem PksIn.first {W W' : World} {A : Option Addr} {c : Nat} {x : Pk} (h : PksIn W W' A c [x]) : ∃ b, A = some ⟨b, 0, none⟩ ∧ ∀ w', Fr NoBlk W' w' → w'.cell? ⟨b, 0, none⟩ = some (.int .u64 (x.ep : Int)) ∧ w'.cell? ⟨b, 1, none⟩ = some (.int .u64 (x.pe : Int)) ∧ w'.cell? ⟨b, 2, none⟩ = some (.int .u64 (x.sq : Int)) ∧ w'.cell? ⟨b, 3, none⟩ = some (.int .u64 (x.ak : Int)) ∧ w'.cell? ⟨b, 4, none⟩ = some (.slice x.d.1 x.d.2.2.length x.d.2.1) := by
  obtain ⟨b, o, e, hc⟩ := (h.rd (by simp)).at_ (k := 0) (x := x) rfl
  rcases h.own.2 with ⟨e1, e0⟩ | ⟨g, cap, cur, e1, _⟩
  · cases e0
  · injection e1 with e1
    rw [e] at e1
    injection e1 with e1
    injection e1 with e1 e2
    subst e2
    refine ⟨b, e, fun w' hf => ?_⟩
    obtain ⟨a0, a1, a2, a3, a4, _⟩ := hc w' hf
    simp only [Nat.zero_mul, Nat.add_zero, Nat.zero_add] at a0 a1 a2 a3 a4
    exact ⟨a0, a1, a2, a3, a4⟩
theorem Rd.nil_ (w : World) (A : Option Addr) : Rd w A [] := fun h => absurd h (by simp)
theorem Rd.of_const (w : World) (cs : Array Value) (t : TypeId) (fr : Nat × Nat) (l : List Value) (h : cs.toList = l) : Rd (w.alloc (.cells cs t fr)) (some ⟨w.heap.size, 0, none⟩) l := by
  intro _
  refine ⟨w.heap.size, 0, rfl, fun j v hj => ?_⟩
  rw [cell_of_row _ w.heap.size _ cs t fr (heap_alloc_new w _), Nat.zero_add, ← hj, ← h]
  simp
theorem kConst (w : World) (C : Array Value) (n c : Nat) : (convert 30 30 (.slice (some ⟨w.heap.size, 0, none⟩) n c)).run Try.prog (w.alloc (.cells C 5)) = .ok (.slice (some ⟨w.heap.size, 0, none⟩) n c) (w.alloc (.cells C 5 (C.size, C.size + 1))) :=
  Lib.run_convert_bytes_const (P := Try.prog) w _ _ C n c Try.underlying30 Try.underlying5
def lk0 (ep gm : Nat) : Lk := ⟨ep, 0, 1, 1, none, 0, [], gm, 0, fun _ => none⟩

set_option maxRecDepth 100000 in
set_option maxHeartbeats 4000000 in
theorem speaks_any (w : World) : Calls Try.prog 8 #[] w fun e w' => e = .returned (.bool true) ∧ Fr NoBlk w w' := by
  have kc := kConst
  go_enter Try.func8, Try.ntmps8
  go_wp2_with fail
  refine (new_any w 1 (by omega)).mono ?_
  rintro e w1 ⟨ga, ma, rfl, hl1, hf1, ha1, hm1⟩
  go_wp2_with fail
  refine (new_any w1 2 (by omega)).mono ?_
  rintro e w2 ⟨gb, mb, rfl, hl2, hf2, ha2, hm2⟩
  have HT := Lib.hid (two_new hl1 hf1 ha1 hm1 hl2 hf2 ha2 hm2)
  clear hl1 hf1 ha1 hm1 hl2 hf2 ha2 hm2
  go_wp2_with fail
  obtain ⟨w3, hw3⟩ : ∃ w3, w3 = w2.alloc (.cells #[.int .u8 120] 5 (1, 2)) := ⟨_, rfl⟩
  have HF3 : Hid (Fr NoBlk w2 w3) := by show Fr _ _ _; rw [hw3]; exact (Fr.refl _ _).alloc _
  have HR3 : Hid (Rd w3 (some ⟨w2.heap.size, 0, none⟩) (cb [120])) := by show Rd _ _ _; rw [hw3]; exact Rd.of_const w2 _ _ _ _ rfl
  rw [← hw3]
  clear hw3
  have HT3 := Lib.hid (HT.out.still HF3.out)
  refine (send_any w3 _ ga _ HT3.out.a (some ⟨w2.heap.size, 0, none⟩) 1 [120] HR3.out (fun h => by cases h) (by simp)).mono ?_
  rintro e w4 hs
  unfold SendPost at hs
  rw [if_neg (by show ¬ 16 ≤ 0; omega)] at hs
  obtain ⟨rfl, hf4, As, cs, A2, c2, hl4⟩ := hs
  have HT4 := Lib.hid (HT3.out.stepA hl4 (fun k hk => hk.imp id fun h => h.1) hf4)
  clear hl4 hf4 HT HT3 HR3 HF3
  dsimp only [List.nil_append] at HT4
  go_wp2_with fail
  refine (packets_any w4 _ ga _ HT4.out.a (by intro p hp; have := List.mem_singleton.1 hp; subst this; simp)).mono ?_
  rintro e w5 ⟨Ah, ch, xs, rfl, hp5, hf5, hpa⟩
  unfold PacketsAre at hpa
  rw [if_neg (by simp), if_pos rfl] at hpa
  obtain ⟨x, rfl, x1, x2, x3, x4, x5⟩ := hpa
  have HT5 := Lib.hid (HT4.out.still hf5)
  have HP5 := Lib.hid hp5
  have HX : Hid (x.ep = 1 ∧ x.pe = 0 ∧ x.sq = 0 ∧ x.ak = 0 ∧ x.d.2.2 = []) := ⟨x1, x2, x3, x4, x5⟩
  obtain ⟨bh, rfl, hch⟩ := hp5.first
  have HCH := Lib.hid hch
  clear hp5 hf5 x1 x2 x3 x4 x5 hch HT4
  go_wp2_with fail
  have hY : Rd w5 (⟨1, 0, 0, 0, none, 0, []⟩ : Pk).d.1 (cb (⟨1, 0, 0, 0, none, 0, []⟩ : Pk).d.2.2) := Rd.nil_ _ _
  have HY := Lib.hid (one_rd w5 ⟨1, 0, 0, 0, none, 0, []⟩ hY)
  have HF6 : Hid (Fr NoBlk w5 (w5.alloc (.cells (pka ⟨1, 0, 0, 0, none, 0, []⟩) 32))) := (Fr.refl _ _).alloc _
  have HX6 : Hid (PkRd (w5.alloc (.cells (pka ⟨1, 0, 0, 0, none, 0, []⟩) 32)) (some ⟨bh, 0, none⟩) [x]) := (HP5.out.rd (by simp)).nofr HF6.out
  clear hY
  refine (samePk_any _ (some ⟨bh, 0, none⟩) (some ⟨w5.heap.size, 0, none⟩) ch 1 [x] [⟨1, 0, 0, 0, none, 0, []⟩] HX6.out HY.out).mono ?_
  rintro e w6 ⟨⟨d6, rfl, hd6⟩, hf6⟩
  obtain rfl : d6 = true := hd6.2 (by
    obtain ⟨a1, a2, a3, a4, a5⟩ := HX.out
    simp [pkd, a1, a2, a3, a4, a5])
  have HF56 : Hid (Fr NoBlk w5 w6) := HF6.out.trans hf6
  have HT6 := Lib.hid (HT5.out.still HF56.out)
  clear hd6 hf6 HF6 HX6 HY HT5
  obtain ⟨h0, h1, h2, h3, h4⟩ := HCH.out w6 HF56.out
  go_wp2_with fail
  refine (rec_any w6 _ gb _ HT6.out.b x (by rw [HX.out.1]; omega) (by rw [HX.out.2.2.1]; omega) (by rw [HX.out.2.2.2.1]; omega) (fun W _ => by rw [HX.out.2.2.2.2]; exact Rd.nil_ _ _) ((own_lens (HP5.out.data x (by simp))).2.2) (by rw [HX.out.2.2.2.2]; simp) (by show (1 : Nat) < _; omega) (by show (0 : Nat) ≤ _; omega)).mono ?_
  rintro e w7 ⟨A7, c7, ps7, B7, c7', xs7, O7, L7, rfl, hr7⟩
  have hd7 := hr7.data
  unfold RecD at hd7
  rw [if_neg (by obtain ⟨a1, a2, a3, a4, a5⟩ := HX.out; rw [a1]; simp), if_pos (by obtain ⟨a1, a2, a3, a4, a5⟩ := HX.out; rw [a2]; simp)] at hd7
  obtain ⟨rfl, ⟨y, rfl, y1, y2, y3, y4, y5⟩, rfl⟩ := hd7
  have HT7 := Lib.hid (HT6.out.swap.stepA hr7.lk hr7.blks.2 hr7.fr).swap
  have HP7 := Lib.hid hr7.pks
  have HYY : Hid (y.ep = 2 ∧ y.pe = 1 ∧ y.sq = 0 ∧ y.ak = 0 ∧ y.d.2.2 = []) := by
    unfold metL at y1 y2 y4
    rw [HX.out.1, if_pos (by show 0 < 1; omega)] at y1 y2 y4
    exact ⟨y1, y2, y3, y4, y5⟩
  obtain ⟨bk, rfl, hck⟩ := hr7.pks.first
  have HCK := Lib.hid hck
  clear hr7 y1 y2 y3 y4 y5 hck h0 h1 h2 h3 h4 HT6 HF56 HCH
  go_wp2_with fail
  have HY8 := Lib.hid (one_rd w7 ⟨2, 1, 0, 0, none, 0, []⟩ (Rd.nil_ _ _))
  have HF8 : Hid (Fr NoBlk w7 (w7.alloc (.cells (pka ⟨2, 1, 0, 0, none, 0, []⟩) 32))) := (Fr.refl _ _).alloc _
  have HX8 : Hid (PkRd (w7.alloc (.cells (pka ⟨2, 1, 0, 0, none, 0, []⟩) 32)) (some ⟨bk, 0, none⟩) [y]) := (HP7.out.rd (by simp)).nofr HF8.out
  refine (samePk_any _ (some ⟨bk, 0, none⟩) (some ⟨w7.heap.size, 0, none⟩) c7' 1 [y] [⟨2, 1, 0, 0, none, 0, []⟩] HX8.out HY8.out).mono ?_
  rintro e w8 ⟨⟨d8, rfl, hd8⟩, hf8⟩
  obtain rfl : d8 = true := hd8.2 (by
    obtain ⟨a1, a2, a3, a4, a5⟩ := HYY.out
    simp [pkd, a1, a2, a3, a4, a5])
  have HF78 : Hid (Fr NoBlk w7 w8) := HF8.out.trans hf8
  have HT8 := Lib.hid (HT7.out.still HF78.out)
  clear hd8 hf8 HF8 HX8 HY8 HT7
  obtain ⟨h0, h1, h2, h3, h4⟩ := HCK.out w8 HF78.out
  go_wp2_with fail
  refine (rec_any w8 _ ga _ HT8.out.a y (by rw [HYY.out.1]; omega) (by rw [HYY.out.2.2.1]; omega) (by rw [HYY.out.2.2.2.1]; omega) (fun W _ => by rw [HYY.out.2.2.2.2]; exact Rd.nil_ _ _) ((own_lens (HP7.out.data y (by simp))).2.2) (by rw [HYY.out.2.2.2.2]; simp) (by show (1 : Nat) < _; omega) (by show (0 : Nat) ≤ _; omega)).mono ?_
  rintro e w9 ⟨A9, c9, ps9, B9, c9', xs9, O9, L9, rfl, hr9⟩
  have hd9 := hr9.data
  obtain ⟨a1, a2, a3, a4, a5⟩ := HYY.out
  unfold RecD metL acked at hd9
  rw [a1, a2, a3, a4, if_neg (by simp), if_neg (by simp), if_pos rfl, if_pos (by show 0 < 1; omega), if_pos (by show 0 < 2; omega)] at hd9
  obtain ⟨rfl, rfl, rfl⟩ := hd9
  have HT9 := Lib.hid (HT8.out.stepA hr9.lk hr9.blks.2 hr9.fr)
  clear hr9 h0 h1 h2 h3 h4 a1 a2 a3 a4 a5 HT8 HF78 HCK
  go_wp2_with fail
  refine (packets_any w9 _ ga _ HT9.out.a (by intro p hp; have := List.mem_singleton.1 hp; subst this; simp)).mono ?_
  rintro e w10 ⟨Az, cz, xz, rfl, hp10, hf10, hpa⟩
  unfold PacketsAre at hpa
  rw [if_neg (by simp), if_neg (by simp)] at hpa
  obtain ⟨hlz, hpz⟩ := hpa
  obtain ⟨z, rfl⟩ : ∃ z, xz = [z] := by
    match xz, hlz with
    | [z], _ => exact ⟨z, rfl⟩
  obtain ⟨z1, z2, z3, z4, q, hq, z5⟩ := hpz 0 z rfl
  have hq' : q = (A2, c2, [120]) := by simpa using hq.symm
  have HZZ : Hid (z.ep = 1 ∧ z.pe = 2 ∧ z.sq = 1 ∧ z.ak = 0 ∧ z.d.2.2 = [120]) := ⟨z1, z2, z3, z4, by rw [z5, hq']⟩
  have HPZ := Lib.hid hp10
  have HT10 := Lib.hid (HT9.out.still hf10)
  clear hlz hpz z1 z2 z3 z4 z5 hq hq' hp10 hf10 HT9
  go_wp2_with fail
  have hYd : Rd (w10.alloc (.cells #[.int .u8 120] 5 (1, 2))) (⟨1, 2, 1, 0, some ⟨w10.heap.size, 0, none⟩, 1, [120]⟩ : Pk).d.1 (cb (⟨1, 2, 1, 0, some ⟨w10.heap.size, 0, none⟩, 1, [120]⟩ : Pk).d.2.2) := Rd.of_const w10 _ _ _ _ rfl
  obtain ⟨w11, hw11⟩ : ∃ w11, w11 = w10.alloc (.cells #[.int .u8 120] 5 (1, 2)) := ⟨_, rfl⟩
  have hf11 : Fr NoBlk w10 w11 := by rw [hw11]; exact (Fr.refl _ _).alloc _
  have hs11 : w11.heap.size = w10.heap.size + 1 := by rw [hw11]; simp
  rw [← hw11] at hYd
  have HYE := Lib.hid (one_rd w11 ⟨1, 2, 1, 0, some ⟨w10.heap.size, 0, none⟩, 1, [120]⟩ hYd)
  have HF12 : Hid (Fr NoBlk w10 (w11.alloc (.cells (pka ⟨1, 2, 1, 0, some ⟨w10.heap.size, 0, none⟩, 1, [120]⟩) 32))) := hf11.alloc _
  have HXE : Hid (PkRd (w11.alloc (.cells (pka ⟨1, 2, 1, 0, some ⟨w10.heap.size, 0, none⟩, 1, [120]⟩) 32)) Az [z]) := (HPZ.out.rd (by simp)).nofr HF12.out
  rw [← hw11]
  rw [hs11] at HYE
  clear hw11 hYd hf11 hs11
  refine (samePk_any _ Az (some ⟨w10.heap.size + 1, 0, none⟩) cz 1 [z] [⟨1, 2, 1, 0, some ⟨w10.heap.size, 0, none⟩, 1, [120]⟩] HXE.out HYE.out).mono ?_
  rintro e w12 ⟨⟨d12, rfl, hd12⟩, hf12⟩
  obtain rfl : d12 = true := hd12.2 (by
    obtain ⟨a1, a2, a3, a4, a5⟩ := HZZ.out
    simp [pkd, a1, a2, a3, a4, a5])
  have HFZ : Hid (Fr NoBlk w w12) := (HT10.out.fr.trans HF12.out).trans hf12
  clear hd12 hf12
  go_wp2_with fail
  go_ret
  exact ⟨rfl, HFZ.out⟩
end Go.Proofs.Ytchlafhmoncldaa
