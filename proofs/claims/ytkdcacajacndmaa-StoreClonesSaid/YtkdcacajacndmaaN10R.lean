/- A child that lacks an item gets one from the child behind it. Conditions: as the tree's shape has them. -/
import Derived.Test.YtkdcacajacndmaaN9R
import Derived.Deep.RegionLaw

namespace Go.Proofs.Ytkdcacajacndmaa
open Go.RowKit
theorem step_appRow {P : Program} {w : World} {ops : Array Oper} {o : Oper} {a : Act} {K : Act → World → Prop} {Q : Exit → Act → World → Prop} {E : Prop} (hgd : o.guard = none) (s x : Operand) (t : TypeId)
    (ho : o.op = .call { callee := .builtin .append, args := #[s, x], argTypes := #[t, t] })
    (base : Nat) (e : TypeId) (i : TypeInfo) (z : Value) (size bytes : Nat) (ht : P.underlying t = some (.slice e)) (hi : P.info? e = some i) (hz : i.zero = some z)
    (hsize : i.size = size) (hby : i.bytes = bytes) (hzs : z.cells.size = size) (hpos : 0 < size)
    (v : Value) (n : Nat) (xs : List Value) (hs : a.eval s = v) (hown : RowW w base e size v n xs)
    (A : Option Addr) (c m : Nat) (news : List Value) (hx : a.eval x = .slice A m c) (hm : news.length = m * size) (hr : Rd w A news) (h1 : ∀ u ∈ news, u.oneCell' = true)
    (hA : A = none → c = 0) (h63 : n + m ≤ maxLen) (hbytes : (n + m) * bytes ≤ 140737488355328) (hbase : base ≤ w.heap.size)
    (h : ∀ v' w', RowW w' base e size v' (n + m) (xs ++ news) → Fr (fun k => v.ownBlock = some k) w w' → (v'.ownBlock = v.ownBlock ∨ v'.ownBlock = some w.heap.size) → K (a.put o.dst v') w') :
    if Region.wanted o (yielded ops a.tmps) = true then Oper.wp P o a w K Q else E := by
  obtain ⟨v', w', hrun, h2, h3, h5⟩ := run_append_rowW (P := P) w base t o.type e i z size bytes ht hi hz hsize hby hzs hpos v n xs hown A c m news hm hr h1 hA h63 hbytes hbase
  exact step_appI hgd s x t t ho v (.slice A m c) hs hx hrun (h v' w' h2 h3 h5)
theorem rowPost {w1 W w2 : World} {A A2 : Option Addr} {n c n2 c2 : Nat} (hW : Fr NoBlk w1 W) (hf : Fr (fun k => (Value.slice A n c).ownBlock = some k) W w2) (hb : (Value.slice A2 n2 c2).ownBlock = (Value.slice A n c).ownBlock ∨ (Value.slice A2 n2 c2).ownBlock = some W.heap.size) :
    Fr (ablk A) w1 w2 ∧ ∀ b, ablk A2 b → ablk A b ∨ w1.heap.size ≤ b := by
  refine ⟨(hW.mono fun _ _ h => h.elim).step hf fun b _ h => own_ablk h, fun b hb' => ?_⟩
  have h1 := ablk_own (n := n2) (c := c2) hb'
  rcases hb with h | h
  · exact .inl (own_ablk (h ▸ h1))
  · rw [h] at h1
    injection h1 with h1
    exact .inr (h1 ▸ hW.size)
def ShLRPost (w : World) (h l r : Hd ItR) (ps lps rps : List Nat) (i : Nat) (ri : List ItR) (z m : ItR) (e : Ending) (w' : World) : Prop :=
  (∃ v, e = .returned v) ∧ ∃ l' r' : Hd ItR, ({ h with xs := h.xs.set i z } : Hd ItR).lies tkR w' ps ∧ l'.xs = l.xs ++ [m] ∧ l'.lies tkR w' (lps ++ rps.take 1) ∧ l'.g = l.g ∧ (∀ b, l'.own b → l.own b ∨ w.heap.size ≤ b) ∧
    r'.xs = ri ∧ r'.lies tkR w' (rps.drop 1) ∧ r'.g = r.g ∧ (∀ b, r'.own b → r.own b ∨ w.heap.size ≤ b) ∧ Dj l'.own r'.own ∧ Fr (fun b => h.own b ∨ l.own b ∨ r.own b) w w'
set_option maxRecDepth 100000 in
set_option maxHeartbeats 1000000 in
theorem shLR_any (w : World) (h l r : Hd ItR) (ps lps rps : List Nat) (i : Nat) (ri : List ItR) (z m : ItR) (hh : h.lies tkR w ps) (hl : l.lies tkR w lps) (hr : r.lies tkR w rps) (hi : ps[i]? = some l.g) (hi1 : ps[i + 1]? = some r.g) (hm : h.xs[i]? = some m) (hrx : r.xs = z :: ri)
    (hn : h.xs.length ≤ 17) (hln : l.xs.length ≤ 17) (hrn : r.xs.length ≤ 17) (hq : (lps = [] ∧ rps = []) ∨ (lps.length = l.xs.length + 1 ∧ rps.length = r.xs.length + 1)) (d1 : Dj h.own l.own) (d2 : Dj h.own r.own) (d3 : Dj l.own r.own) (hps : ps.length ≤ 100) :
    Calls Try.prog 99 #[.pointer (some ⟨h.g, 0, none⟩), .int .i64 i] w (ShLRPost w h l r ps lps rps i ri z m) := by
  obtain ⟨i0, hi0, hz0, hz1, hz2⟩ := info_parts infoIR
  obtain ⟨j0, hj0, hy0, hy1, hy2⟩ := info_parts infoPR
  obtain ⟨hg, hA, hc, hB, he, hxs⟩ := h
  obtain ⟨lg, lA, lc, lB, le, lxs⟩ := l
  obtain ⟨rg, rA, rc, rB, re, rxs⟩ := r
  dsimp only at hi hi1 hm hrx hn hln hrn hq
  subst hrx
  obtain ⟨k, hk⟩ : ∃ k, k = ri.length := ⟨_, rfl⟩
  obtain ⟨b1, b2, b3⟩ := hh
  obtain ⟨l1, l2, l3⟩ := hl
  obtain ⟨r1, r2, r3⟩ := hr
  have hh : (Hd.mk hg hA hc hB he hxs).lies tkR w ps := ⟨b1, b2, b3⟩
  have hl : (Hd.mk lg lA lc lB le lxs).lies tkR w lps := ⟨l1, l2, l3⟩
  have hr : (Hd.mk rg rA rc rB re (z :: ri)).lies tkR w rps := ⟨r1, r2, r3⟩
  unfold tkR at b1 b2 b3 l1 l2 l3 r1 r2 r3
  dsimp only at b1 b2 b3 l1 l2 l3 r1 r2 r3
  have hrk : (z :: ri).length = k + 1 := by rw [hk]; rfl
  rw [hrk] at r1 r2
  obtain ⟨n, hnn⟩ : ∃ n, n = hxs.length := ⟨_, rfl⟩
  obtain ⟨np, hnp⟩ : ∃ np, np = ps.length := ⟨_, rfl⟩
  obtain ⟨nl, hnl⟩ : ∃ nl, nl = lxs.length := ⟨_, rfl⟩
  obtain ⟨nlp, hnlp⟩ : ∃ nlp, nlp = lps.length := ⟨_, rfl⟩
  obtain ⟨nrp, hnrp⟩ : ∃ nrp, nrp = rps.length := ⟨_, rfl⟩
  rw [← hnn] at b1 b2
  rw [← hnp] at b1 b3
  rw [← hnl] at l1 l2
  rw [← hnlp] at l1 l3
  rw [← hnrp] at r1 r3
  have hinp : i < np := by rw [hnp]; exact (List.getElem?_eq_some_iff.1 hi).1
  have hinp1 : i + 1 < np := by rw [hnp]; exact (List.getElem?_eq_some_iff.1 hi1).1
  have hin : i < n := by rw [hnn]; exact (List.getElem?_eq_some_iff.1 hm).1
  obtain ⟨pb, rfl⟩ := b3.addr (by omega)
  obtain ⟨ha, rfl⟩ := b2.addr (by omega)
  obtain ⟨ra, rfl⟩ := r2.addr (by omega)
  obtain ⟨mk, mv⟩ := m
  obtain ⟨zk, zv⟩ := z
  have pc : w.cell? ⟨pb, i, none⟩ = some (.pointer (some ⟨lg, 0, none⟩)) := b3.cellP (ps := ps) hi
  have pc1 : w.cell? ⟨pb, i + 1, none⟩ = some (.pointer (some ⟨rg, 0, none⟩)) := b3.cellP (ps := ps) hi1
  have c1 : w.cell? ⟨hg, 1, none⟩ = some (.slice (some ⟨pb, 0, none⟩) np he) := b1.cell 1
  have hwi : IntKind.i64.wrap ((i : Int) + 1) = (i : Int) + 1 := IntWalk.i64_in _ (by omega)
  have HH := Lib.hid hh
  have HL := Lib.hid hl
  have HR := Lib.hid hr
  have HN : Hid (n = hxs.length ∧ nlp = lps.length ∧ nl = lxs.length ∧ nrp = rps.length ∧ k = ri.length ∧ np = ps.length) := ⟨hnn, hnlp, hnl, hnrp, hk, hnp⟩
  have HM := Lib.hid hm
  have HQ := Lib.hid hq
  have HD := Lib.hid (And.intro d1 (And.intro d2 d3))
  have HSZ : Hid (n ≤ 17 ∧ k ≤ 16 ∧ nl ≤ 17 ∧ np ≤ 100) := ⟨by omega, by omega, by omega, by omega⟩
  clear b1 b2 b3 l1 l2 l3 r1 r2 r3 hh hl hr hm hq d1 d2 d3 hnn hnlp hnl hnrp hk hnp hrk hi hi1 hn hln hrn hps
  go_enter Try.func99, Try.ntmps99
  go_wp2_with fail
  go_quiet (fail)
  have HF1 : Hid (Fr NoBlk w (w.drewN nq)) := (Fr.refl NoBlk w).drewN nq
  obtain ⟨w1, hw1⟩ : ∃ w1, w1 = w.drewN nq := ⟨_, rfl⟩
  rw [← hw1] at HF1 ⊢
  clear hw1 pc pc1 c1
  have HH1 := Lib.hid (HH.out.fr HF1.out fun _ _ e => e)
  have HL1 := Lib.hid (HL.out.fr HF1.out fun _ _ e => e)
  have HR1 := Lib.hid (HR.out.fr HF1.out fun _ _ e => e)
  obtain ⟨b1, b2, b3⟩ := HH1.out
  obtain ⟨l1, l2, l3⟩ := HL1.out
  unfold tkR at b1 b2 b3 l1 l2 l3
  dsimp only at b1 b2 b3 l1 l2 l3
  rw [← HN.out.1] at b1 b2
  rw [← HN.out.2.2.2.2.2] at b1 b3
  rw [← HN.out.2.2.1] at l1 l2
  rw [← HN.out.2.1] at l1 l3
  have c0 : w1.cell? ⟨lg, 0, none⟩ = some (.slice lA nl lc) := l1.cell 0
  have c0a : (w1.alloc (.cells #[.string (bstr mk), .bool mv.has, .slice mv.va mv.vn mv.vc, .int .i64 mv.home, .int .u64 (mv.count : Int)] 124)).cell? ⟨lg, 0, none⟩ = some (.slice lA nl lc) := (l1.alloc _).cell 0
  have c0d : w1.drew.cell? ⟨lg, 0, none⟩ = some (.slice lA nl lc) := c0
  have c0ad : (w1.alloc (.cells #[.string (bstr mk), .bool mv.has, .slice mv.va mv.vn mv.vc, .int .i64 mv.home, .int .u64 (mv.count : Int)] 124)).drew.cell? ⟨lg, 0, none⟩ = some (.slice lA nl lc) := c0a
  have c0da : (w1.drew.alloc (.cells #[.string (bstr mk), .bool mv.has, .slice mv.va mv.vn mv.vc, .int .i64 mv.home, .int .u64 (mv.count : Int)] 124)).cell? ⟨lg, 0, none⟩ = some (.slice lA nl lc) := c0a
  have e0 : w1.cell? ⟨hg, 0, none⟩ = some (.slice (some ⟨ha, 0, none⟩) n hc) := b1.cell 0
  have e0d : w1.drew.cell? ⟨hg, 0, none⟩ = some (.slice (some ⟨ha, 0, none⟩) n hc) := e0
  have m0 : w1.cell? ⟨ha, i * 5, none⟩ = some (.string (bstr mk)) := (b2.cellR HM.out).1
  have m1 : w1.cell? ⟨ha, i * 5 + 1, none⟩ = some (.bool mv.has) := (b2.cellR HM.out).2.1
  have m1x1 : w1.cell? ⟨ha, i * 5 + 2, none⟩ = some (.slice mv.va mv.vn mv.vc) := (b2.cellR HM.out).2.2.1
  have m1x2 : w1.cell? ⟨ha, i * 5 + 3, none⟩ = some (.int .i64 mv.home) := (b2.cellR HM.out).2.2.2.1
  have m1x3 : w1.cell? ⟨ha, i * 5 + 4, none⟩ = some (.int .u64 (mv.count : Int)) := (b2.cellR HM.out).2.2.2.2
  have m0d : w1.drew.cell? ⟨ha, i * 5, none⟩ = some (.string (bstr mk)) := m0
  have m1d : w1.drew.cell? ⟨ha, i * 5 + 1, none⟩ = some (.bool mv.has) := m1
  have m1dx1 : w1.drew.cell? ⟨ha, i * 5 + 2, none⟩ = some (.slice mv.va mv.vn mv.vc) := m1x1
  have m1dx2 : w1.drew.cell? ⟨ha, i * 5 + 3, none⟩ = some (.int .i64 mv.home) := m1x2
  have m1dx3 : w1.drew.cell? ⟨ha, i * 5 + 4, none⟩ = some (.int .u64 (mv.count : Int)) := m1x3
  have HROW : Hid (∀ W, Fr NoBlk w1 W → RowW W 0 124 5 (.slice lA nl lc) nl (itsR lxs)) := fun W hf => l2.fr hf fun _ _ e => e
  have HNB : Hid (nl + 1 ≤ 100) := by have := HSZ.out; show nl + 1 ≤ 100; omega
  have HLB := Lib.hid (And.intro l1 (l2.ne_ l1 (by decide)))
  clear b1 b2 b3 l1 l2 l3
  go_upto_region 1 with fail
  go_cut [21] (fun s wx => s = .pointer (some ⟨lg, 0, none⟩) ∧ Hid (AnewR w1 wx ⟨lg, lA, lc, lB, le, lxs⟩ (lxs ++ [(mk, mv)]) lps))
  case first =>
    go_region_law ((refine step_appRow rfl _ _ 99 rfl 0 124 i0 _ 5 64 Try.underlying99 hi0 hz0 hz1 hz2 rfl (by decide) (.slice lA nl lc) nl (itsR lxs) (by simp [Act.eval]) (HROW.out _ (by first | exact ((Fr.refl _ _).alloc _).drew | exact (Fr.refl _ _).drew.alloc _)) (some ⟨w1.heap.size, 0, none⟩) 1 1 [.string (bstr mk), .bool mv.has, .slice mv.va mv.vn mv.vc, .int .i64 mv.home, .int .u64 (mv.count : Int)] (by simp [Act.eval]) rfl (by first | exact Rd.of_cells (Bk.new _ _ _) | exact Rd.of_cells (Bk.fr (Bk.new _ _ _) (Fr.refl NoBlk _).drew fun h => h)) (by intro u hu; simp only [List.mem_cons, List.not_mem_nil, or_false] at hu; rcases hu with rfl | rfl | rfl | rfl | rfl <;> rfl) (fun h => by cases h) (by have := HNB.out; unfold maxLen; omega) (by have := HNB.out; omega) (Nat.zero_le _) ?_); intro v2 w2 ho2 hf2 hb2; obtain ⟨A2, c2, rfl, hc2, hA2⟩ := ho2.form; have HO2 := Lib.hid ho2; have HX2 := Lib.hid (rowPost (w1 := w1) (by first | exact ((Fr.refl _ _).alloc _).drew | exact (Fr.refl _ _).drew.alloc _) hf2 hb2); have HB2 := Lib.hid (HLB.out.1.fr HX2.out.1 HLB.out.2); have c2' := HB2.out.cell 0; have f2' := HB2.out.free 0; clear ho2 hf2 hb2 hA2 hc2)
    all_goals
      go_wp2_with fail
      go_meet
      exact ⟨rfl, AnewR.ofI HL1.out (by show nl + 1 = (lxs ++ [(mk, mv)]).length; rw [List.length_append, HN.out.2.2.1]; rfl) (by rw [itsR_append]; exact HO2.out) HX2.out.1 HX2.out.2⟩
  case rest =>
    obtain ⟨w3, rfl⟩ : ∃ w3, w3 = wc := ⟨_, rfl⟩
    obtain ⟨rfl, HCR⟩ := hcut
    obtain ⟨⟨lg', lA', lc', lB', le', lxs'⟩, hl9, hlx9, hlg9, hlo, hlf⟩ := HCR.out
    dsimp only at hlx9 hlg9
    subst hlx9 hlg9
    have HL9 := Lib.hid hl9
    have HLO := Lib.hid hlo
    have HLF := Lib.hid hlf
    have HH2 : Hid ((Hd.mk hg (some ⟨ha, 0, none⟩) hc (some ⟨pb, 0, none⟩) he hxs).lies tkR w3 ps) := Hd.lies.fr HH1.out hlf fun b h1 h2 => HD.out.1 b h1 h2
    have HR2 : Hid ((Hd.mk rg (some ⟨ra, 0, none⟩) rc rB re ((zk, zv) :: ri)).lies tkR w3 rps) := Hd.lies.fr HR1.out hlf fun b h1 h2 => HD.out.2.2 b h2 h1
    clear hl9 hlo hlf HCR HLB HROW e0 e0d m0 m1 m1x3 m1x2 m1x1 m0d m1d m1dx3 m1dx2 m1dx1 c0 c0a c0d c0ad c0da
    obtain ⟨b1, b2, b3⟩ := HH2.out
    obtain ⟨r1, r2, r3⟩ := HR2.out
    unfold tkR at b1 b2 b3 r1 r2 r3
    dsimp only at b1 b2 b3 r1 r2 r3
    have hrk : ((zk, zv) :: ri).length = k + 1 := by rw [HN.out.2.2.2.2.1]; rfl
    rw [hrk] at r1 r2
    rw [← HN.out.1] at b1 b2
    have c0 : w3.cell? ⟨rg, 0, none⟩ = some (.slice (some ⟨ra, 0, none⟩) (k + 1 : Nat) rc) := r1.cell 0
    have e0 : w3.cell? ⟨hg, 0, none⟩ = some (.slice (some ⟨ha, 0, none⟩) n hc) := b1.cell 0
    have z0 : w3.cell? ⟨ra, 0, none⟩ = some (.string (bstr zk)) := by have := (r2.cellR (k := 0) (x := (zk, zv)) rfl).1; simpa using this
    have z1 : w3.cell? ⟨ra, 1, none⟩ = some (.bool zv.has) := by have := (r2.cellR (k := 0) (x := (zk, zv)) rfl).2.1; simpa using this
    have z1x1 : w3.cell? ⟨ra, 2, none⟩ = some (.slice zv.va zv.vn zv.vc) := by have := (r2.cellR (k := 0) (x := (zk, zv)) rfl).2.2.1; simpa using this
    have z1x2 : w3.cell? ⟨ra, 3, none⟩ = some (.int .i64 zv.home) := by have := (r2.cellR (k := 0) (x := (zk, zv)) rfl).2.2.2.1; simpa using this
    have z1x3 : w3.cell? ⟨ra, 4, none⟩ = some (.int .u64 (zv.count : Int)) := by have := (r2.cellR (k := 0) (x := (zk, zv)) rfl).2.2.2.2; simpa using this
    have m0 : w3.cell? ⟨ha, i * 5, none⟩ = some (.string (bstr mk)) := (b2.cellR HM.out).1
    have m1 : w3.cell? ⟨ha, i * 5 + 1, none⟩ = some (.bool mv.has) := (b2.cellR HM.out).2.1
    have m1x1 : w3.cell? ⟨ha, i * 5 + 2, none⟩ = some (.slice mv.va mv.vn mv.vc) := (b2.cellR HM.out).2.2.1
    have m1x2 : w3.cell? ⟨ha, i * 5 + 3, none⟩ = some (.int .i64 mv.home) := (b2.cellR HM.out).2.2.2.1
    have m1x3 : w3.cell? ⟨ha, i * 5 + 4, none⟩ = some (.int .u64 (mv.count : Int)) := (b2.cellR HM.out).2.2.2.2
    have g0 := b2.frz (i * 5)
    have g1 := b2.frz (i * 5 + 1)
    have g1x1 := b2.frz (i * 5 + 2)
    have g1x2 := b2.frz (i * 5 + 3)
    have g1x3 := b2.frz (i * 5 + 4)
    have c0d : w3.drew.cell? ⟨rg, 0, none⟩ = some (.slice (some ⟨ra, 0, none⟩) (k + 1 : Nat) rc) := c0
    have e0d : w3.drew.cell? ⟨hg, 0, none⟩ = some (.slice (some ⟨ha, 0, none⟩) n hc) := e0
    have z0d : w3.drew.cell? ⟨ra, 0, none⟩ = some (.string (bstr zk)) := z0
    have z1d : w3.drew.cell? ⟨ra, 1, none⟩ = some (.bool zv.has) := z1
    have z1dx1 : w3.drew.cell? ⟨ra, 2, none⟩ = some (.slice zv.va zv.vn zv.vc) := z1x1
    have z1dx2 : w3.drew.cell? ⟨ra, 3, none⟩ = some (.int .i64 zv.home) := z1x2
    have z1dx3 : w3.drew.cell? ⟨ra, 4, none⟩ = some (.int .u64 (zv.count : Int)) := z1x3
    have m0d : w3.drew.cell? ⟨ha, i * 5, none⟩ = some (.string (bstr mk)) := m0
    have m1d : w3.drew.cell? ⟨ha, i * 5 + 1, none⟩ = some (.bool mv.has) := m1
    have m1dx1 : w3.drew.cell? ⟨ha, i * 5 + 2, none⟩ = some (.slice mv.va mv.vn mv.vc) := m1x1
    have m1dx2 : w3.drew.cell? ⟨ha, i * 5 + 3, none⟩ = some (.int .i64 mv.home) := m1x2
    have m1dx3 : w3.drew.cell? ⟨ha, i * 5 + 4, none⟩ = some (.int .u64 (mv.count : Int)) := m1x3
    have g0d : w3.drew.frozen? ⟨ha, i * 5, none⟩ = false := g0
    have g1d : w3.drew.frozen? ⟨ha, i * 5 + 1, none⟩ = false := g1
    have g1dx1 : w3.drew.frozen? ⟨ha, i * 5 + 2, none⟩ = false := g1x1
    have g1dx2 : w3.drew.frozen? ⟨ha, i * 5 + 3, none⟩ = false := g1x2
    have g1dx3 : w3.drew.frozen? ⟨ha, i * 5 + 4, none⟩ = false := g1x3
    have hk0 : 0 < k + 1 := Nat.succ_pos _
    have HSET := Lib.hid (Hd.setxR (X := ⟨hg, some ⟨ha, 0, none⟩, hc, some ⟨pb, 0, none⟩, he, hxs⟩) (z := (zk, zv)) HH2.out rfl HM.out)
    clear b1 b2 b3 r1 r2 r3 hrk
    go_upto_region 2 with fail
    go_cut [37] (fun s wx => s = .pointer (some ⟨hg, 0, none⟩) ∧ Hid ((Hd.mk hg (some ⟨ha, 0, none⟩) hc (some ⟨pb, 0, none⟩) he (hxs.set i (zk, zv))).lies tkR wx ps ∧ Fr (fun b => b = ha) w3 wx))
    case first =>
      go_region
      all_goals
        go_wp2_with fail
        go_meet
        exact ⟨rfl, Hd.lies.fr HSET.out.1 (Fr.refl NoBlk _).drew fun _ _ e => e, HSET.out.2.drew⟩
    case rest =>
      obtain ⟨w4, rfl⟩ : ∃ w4, w4 = wc := ⟨_, rfl⟩
      obtain ⟨rfl, HCS⟩ := hcut
      have HH4 : Hid ((Hd.mk hg (some ⟨ha, 0, none⟩) hc (some ⟨pb, 0, none⟩) he (hxs.set i (zk, zv))).lies tkR w4 ps) := HCS.out.1
      have hao : (Hd.mk hg (some ⟨ha, 0, none⟩) hc (some ⟨pb, 0, none⟩) he hxs).own ha := .inr (.inl ⟨_, rfl, rfl⟩)
      have hal : ha < w1.heap.size := HH1.out.lt hao
      have HR4 : Hid ((Hd.mk rg (some ⟨ra, 0, none⟩) rc rB re ((zk, zv) :: ri)).lies tkR w4 rps) := Hd.lies.fr HR2.out HCS.out.2 fun b h1 h2 => HD.out.2.1 ha hao (h2 ▸ h1)
      have HL4 : Hid ((Hd.mk lg' lA' lc' lB' le' (lxs ++ [(mk, mv)])).lies tkR w4 lps) := Hd.lies.fr HL9.out HCS.out.2 fun b h1 h2 => by
        rcases HLO.out b h1 with h | h
        · exact HD.out.1 ha hao (h2 ▸ h)
        · omega
      have HF14 : Hid (Fr (fun b => (Hd.mk hg (some ⟨ha, 0, none⟩) hc (some ⟨pb, 0, none⟩) he hxs).own b ∨ (Hd.mk lg' lA lc lB le lxs).own b) w1 w4) := (HLF.out.mono fun _ _ h => .inr h).step HCS.out.2 fun b _ e => .inl (e ▸ hao)
      clear hao hal c0 e0 z0 z1 z1x3 z1x2 z1x1 m0 m1 m1x3 m1x2 m1x1 g0 g1 g1x3 g1x2 g1x1 c0d e0d z0d z1d z1dx3 z1dx2 z1dx1 m0d m1d m1dx3 m1dx2 m1dx1 g0d g1d g1dx3 g1dx2 g1dx1 HSET HCS HLF HL9 HH2 HR2
      obtain ⟨r1, r2, r3⟩ := HR4.out
      unfold tkR at r1 r2 r3
      dsimp only at r1 r2 r3
      have hrk : ((zk, zv) :: ri).length = k + 1 := by rw [HN.out.2.2.2.2.1]; rfl
      rw [hrk] at r1 r2
      rw [← HN.out.2.2.2.1] at r1 r3
      have c0 : w4.cell? ⟨rg, 0, none⟩ = some (.slice (some ⟨ra, 0, none⟩) (k + 1 : Nat) rc) := r1.cell 0
      have HDEL : Hid (Calls Try.prog 90 #[.slice (some ⟨ra, 0, none⟩) (k + 1 : Nat) rc, .int .i64 0, .int .i64 1] w4 fun en w' => en = .returned (.slice (some ⟨ra, 0, none⟩) k rc) ∧ RowW w' 0 124 5 (.slice (some ⟨ra, 0, none⟩) k rc) k (itsR ri) ∧ Fr (fun j => j = ra) w4 w') := by
        have h := delIR_any w4 0 ra (k + 1) rc 0 (itsR ((zk, zv) :: ri)) r2 hk0 (by have := HSZ.out; omega)
        exact h
      have HLB := Lib.hid (And.intro r1 (r2.ne_ r1 (by decide)))
      clear r1 r2 r3 hrk
      go_wp2_with fail
      refine HDEL.out.mono ?_
      clear HDEL
      rintro e w5 ⟨rfl, hr5, hf5⟩
      obtain ⟨W6, hW6⟩ : ∃ W6, W6 = w5.setCell ⟨rg, 0, none⟩ (.slice (some ⟨ra, 0, none⟩) k rc) := ⟨_, rfl⟩
      have hset := Hd.setI tkAR HR4.out (A' := some ⟨ra, 0, none⟩) (c' := rc) (n' := k) (xs' := ri) HN.out.2.2.2.2.1 hr5 (hf5.mono fun b _ e => ⟨_, rfl, e.symm⟩) (fun b hb => .inl hb)
      rw [← hW6] at hset
      have HR6 : Hid ((Hd.mk rg (some ⟨ra, 0, none⟩) rc rB re ri).lies tkR W6 rps) := hset.1
      have HF46 : Hid (Fr (Hd.mk rg (some ⟨ra, 0, none⟩) rc rB re ((zk, zv) :: ri)).own w4 W6) := hset.2.1
      have HB5 : Hid (Bk w5 rg 102 #[.slice (some ⟨ra, 0, none⟩) (k + 1) rc, .slice rB nrp re]) := HLB.out.1.fr hf5 fun e => HLB.out.2 ⟨_, rfl, e.symm⟩
      have HL6 : Hid ((Hd.mk lg' lA' lc' lB' le' (lxs ++ [(mk, mv)])).lies tkR W6 lps) := Hd.lies.fr HL4.out HF46.out fun b h1 h2 => by
        rcases HLO.out b h1 with h | h
        · exact HD.out.2.2 b h h2
        · have := HR1.out.lt (b := b) h2; omega
      have HH6 : Hid ((Hd.mk hg (some ⟨ha, 0, none⟩) hc (some ⟨pb, 0, none⟩) he (hxs.set i (zk, zv))).lies tkR W6 ps) := Hd.lies.fr HH4.out HF46.out fun b h1 h2 => HD.out.2.1 b h1 h2
      obtain ⟨nx, hnx⟩ : ∃ nx, nx = (lxs ++ [(mk, mv)]).length := ⟨_, rfl⟩
      have HB6 : Hid (Bk W6 lg' 102 #[.slice lA' nx lc', .slice lB' nlp le']) := by
        have h := HL6.out.1
        show Bk _ _ _ _
        rw [hnx, HN.out.2.1]
        exact h
      have c5 := HB5.out.cell 0
      have f5 := HB5.out.free 0
      have HLFF := Lib.hid (leafR_any W6 lg' lA' nx lc' lB' nlp le' HB6.out)
      have HFall : Hid (Fr (fun b => (Hd.mk hg (some ⟨ha, 0, none⟩) hc (some ⟨pb, 0, none⟩) he hxs).own b ∨ (Hd.mk lg' lA lc lB le lxs).own b ∨ (Hd.mk rg (some ⟨ra, 0, none⟩) rc rB re ((zk, zv) :: ri)).own b) w W6) :=
        ((HF1.out.mono fun _ _ h => h.elim).step HF14.out fun b _ h => by rcases h with h | h; exact .inl h; exact .inr (.inl h)).step HF46.out fun b _ h => .inr (.inr h)
      have HDL : Hid (Dj (Hd.mk lg' lA' lc' lB' le' (lxs ++ [(mk, mv)])).own (Hd.mk rg (some ⟨ra, 0, none⟩) rc rB re ri).own) := fun b h1 h2 => by
        rcases HLO.out b h1 with h | h
        · exact HD.out.2.2 b h h2
        · have := HR1.out.lt (b := b) h2; omega
      clear hset hr5 hf5 HR4 HH4 HL4 HB5 HLB hnx c0
      rcases HQ.out with ⟨hq1, hq2⟩ | ⟨hq1, hq2⟩
      · obtain rfl : nlp = 0 := by rw [HN.out.2.1, hq1]; rfl
        have HLF0 : Hid (Calls Try.prog 72 #[.pointer (some ⟨lg', 0, none⟩)] W6 fun en w' => en = .returned (.bool true) ∧ W6 = w') := HLFF.out
        have HQ1 := Lib.hid (And.intro hq1 hq2)
        clear HLFF hq1 hq2
        go_wp2_with fail
        rw [← hW6]
        refine HLF0.out.mono ?_
        rintro e w7 ⟨rfl, rfl⟩
        clear hW6 c5 f5
        go_wp2_with fail
        go_end0
        have e1 := HQ1.out.1
        have e2 := HQ1.out.2
        have hsz1 := HF1.out.size
        refine ⟨⟨_, rfl⟩, ⟨lg', lA', lc', lB', le', lxs ++ [(mk, mv)]⟩, ⟨rg, some ⟨ra, 0, none⟩, rc, rB, re, ri⟩, HH6.out, rfl, ?_, rfl, fun b hb => ?_, rfl, ?_, rfl, fun b hb => .inl hb, HDL.out, HFall.out⟩
        · rw [e1, e2]; rw [e1] at HL6; exact HL6.out
        · rcases HLO.out b hb with h | h
          · exact .inl h
          · exact .inr (by omega)
        · rw [e2]; rw [e2] at HR6; exact HR6.out
      · have hrk : ((zk, zv) :: ri).length = k + 1 := by rw [HN.out.2.2.2.2.1]; rfl
        have hnrp : nrp = k + 2 := by rw [HN.out.2.2.2.1, hq2, hrk]
        subst hnrp
        have hll : rps.length = k + 2 := HN.out.2.2.2.1.symm
        obtain ⟨q, hqq⟩ : ∃ q, rps[0]? = some q := ⟨_, List.getElem?_eq_getElem (by omega)⟩
        have hnlp : nlp = nl + 1 := by rw [HN.out.2.1, hq1, HN.out.2.2.1]
        have HLF0 : Hid (Calls Try.prog 72 #[.pointer (some ⟨lg', 0, none⟩)] W6 fun en w' => en = .returned (.bool false) ∧ W6 = w') := by
          have h := HLFF.out
          rw [decide_eq_false (show ¬ nlp = 0 by omega)] at h
          exact h
        have HLL := Lib.hid hll
        have HQQ := Lib.hid hqq
        have HNR : Hid (nlp = lps.length ∧ nlp + 1 ≤ 100) := ⟨HN.out.2.1, by have := HSZ.out; omega⟩
        clear HLFF hq1 hq2 hrk hll hqq hnlp
        go_wp2_with fail
        rw [← hW6]
        refine HLF0.out.mono ?_
        rintro e w7 ⟨rfl, rfl⟩
        clear hW6 c5 f5 HLF0
        obtain ⟨l1, l2, l3⟩ := HL6.out
        obtain ⟨r1, r2, r3⟩ := HR6.out
        unfold tkR at l1 l2 l3 r1 r2 r3
        dsimp only at l1 l2 l3 r1 r2 r3
        rw [HLL.out] at r1 r3
        rw [← HN.out.2.2.2.2.1] at r1 r2
        rw [← HNR.out.1] at l1 l3
        obtain ⟨ny, hny⟩ : ∃ ny, ny = (lxs ++ [(mk, mv)]).length := ⟨_, rfl⟩
        rw [← hny] at l1
        obtain ⟨rb, rfl⟩ := r3.addr (by omega)
        have c1 : W6.cell? ⟨lg', 1, none⟩ = some (.slice lB' nlp le') := l1.cell 1
        have c1a : (W6.alloc (.cells #[.pointer (some ⟨q, 0, none⟩)] 98)).cell? ⟨lg', 1, none⟩ = some (.slice lB' nlp le') := (l1.alloc _).cell 1
        have c1d : W6.drew.cell? ⟨lg', 1, none⟩ = some (.slice lB' nlp le') := c1
        have c1ad : (W6.alloc (.cells #[.pointer (some ⟨q, 0, none⟩)] 98)).drew.cell? ⟨lg', 1, none⟩ = some (.slice lB' nlp le') := c1a
        have c1da : (W6.drew.alloc (.cells #[.pointer (some ⟨q, 0, none⟩)] 98)).cell? ⟨lg', 1, none⟩ = some (.slice lB' nlp le') := c1a
        have f1 : W6.cell? ⟨rg, 1, none⟩ = some (.slice (some ⟨rb, 0, none⟩) (k + 2 : Nat) re) := r1.cell 1
        have f1d : W6.drew.cell? ⟨rg, 1, none⟩ = some (.slice (some ⟨rb, 0, none⟩) (k + 2 : Nat) re) := f1
        have qc : W6.cell? ⟨rb, 0, none⟩ = some (.pointer (some ⟨q, 0, none⟩)) := r3.cellP HQQ.out
        have qcd : W6.drew.cell? ⟨rb, 0, none⟩ = some (.pointer (some ⟨q, 0, none⟩)) := qc
        have hkl : 0 < k + 2 := by omega
        have hkl2 : (0 : Int) < (k : Int) + 2 := by omega
        have hkl3 : (0 : Int) < ((k + 2 : Nat) : Int) := by omega
        have HROW : Hid (∀ W, Fr NoBlk W6 W → RowW W 0 98 1 (.slice lB' nlp le') nlp (lps.map ptr)) := fun W hf => l3.fr hf fun _ _ e => e
        have HLB := Lib.hid (And.intro l1 (l3.ne_ l1 (by decide)))
        clear l1 l2 l3 r1 r2 r3 hny
        go_upto_region 5 with fail
        go_cut [60] (fun s wx => s = .pointer (some ⟨lg', 0, none⟩) ∧ Hid (AnewR W6 wx ⟨lg', lA', lc', lB', le', lxs ++ [(mk, mv)]⟩ (lxs ++ [(mk, mv)]) (lps ++ [q])))
        case first =>
          go_region_law ((refine step_appRow rfl _ _ 100 rfl 0 98 j0 _ 1 8 Try.underlying100 hj0 hy0 hy1 hy2 rfl (by decide) (.slice lB' nlp le') nlp (lps.map ptr) (by simp [Act.eval]) (HROW.out _ (by first | exact ((Fr.refl _ _).alloc _).drew | exact (Fr.refl _ _).drew.alloc _)) (some ⟨W6.heap.size, 0, none⟩) 1 1 [.pointer (some ⟨q, 0, none⟩)] (by simp [Act.eval]) rfl (by first | exact Rd.of_cells (Bk.new _ _ _) | exact Rd.of_cells (Bk.fr (Bk.new _ _ _) (Fr.refl NoBlk _).drew fun h => h)) (by intro u hu; simp only [List.mem_cons, List.not_mem_nil, or_false] at hu; rcases hu with rfl; rfl) (fun h => by cases h) (by have := HNR.out.2; unfold maxLen; omega) (by have := HNR.out.2; omega) (Nat.zero_le _) ?_); intro v2 w2 ho2 hf2 hb2; obtain ⟨A2, c2, rfl, hc2, hA2⟩ := ho2.form; have HO2 := Lib.hid ho2; have HX2 := Lib.hid (rowPost (w1 := W6) (by first | exact ((Fr.refl _ _).alloc _).drew | exact (Fr.refl _ _).drew.alloc _) hf2 hb2); have HB2 := Lib.hid (HLB.out.1.fr HX2.out.1 HLB.out.2); have c2' := HB2.out.cell 1; have f2' := HB2.out.free 1; clear ho2 hf2 hb2 hA2 hc2)
          all_goals
            go_wp2_with fail
            go_meet
            exact ⟨rfl, AnewR.ofP HL6.out (by show nlp + 1 = (lps ++ [q]).length; rw [List.length_append, HNR.out.1]; rfl) (by rw [List.map_append]; exact HO2.out) HX2.out.1 HX2.out.2⟩
        case rest =>
          obtain ⟨w8, rfl⟩ : ∃ w8, w8 = wc := ⟨_, rfl⟩
          obtain ⟨rfl, HCT⟩ := hcut
          obtain ⟨X8, hl8, hlx8, hlg8, hlo8, hlf8⟩ := HCT.out
          have HX8 := Lib.hid (And.intro hl8 (And.intro hlx8 (And.intro hlg8 hlo8)))
          have HF68 := Lib.hid hlf8
          have HR8 : Hid ((Hd.mk rg (some ⟨ra, 0, none⟩) rc (some ⟨rb, 0, none⟩) re ri).lies tkR w8 rps) := Hd.lies.fr HR6.out hlf8 fun b h1 h2 => HDL.out b h2 h1
          have HH8 : Hid ((Hd.mk hg (some ⟨ha, 0, none⟩) hc (some ⟨pb, 0, none⟩) he (hxs.set i (zk, zv))).lies tkR w8 ps) := Hd.lies.fr HH6.out hlf8 fun b h1 h2 => by
            rcases HLO.out b h2 with h | h
            · exact HD.out.1 b h1 h
            · have := HH1.out.lt (b := b) h1; omega
          clear hl8 hlx8 hlg8 hlo8 hlf8 HCT c1 c1a c1d c1ad c1da qc qcd f1 f1d HROW HLB HH6
          obtain ⟨r1, r2, r3⟩ := HR8.out
          unfold tkR at r1 r2 r3
          dsimp only at r1 r2 r3
          rw [HLL.out] at r1 r3
          rw [← HN.out.2.2.2.2.1] at r1 r2
          have c1 : w8.cell? ⟨rg, 1, none⟩ = some (.slice (some ⟨rb, 0, none⟩) (k + 2 : Nat) re) := r1.cell 1
          have HDP : Hid (Calls Try.prog 103 #[.slice (some ⟨rb, 0, none⟩) (k + 2 : Nat) re, .int .i64 0, .int .i64 1] w8 fun en w' => en = .returned (.slice (some ⟨rb, 0, none⟩) (k + 1) re) ∧ RowW w' 0 98 1 (.slice (some ⟨rb, 0, none⟩) (k + 1) re) (k + 1) ((rps.drop 1).map ptr) ∧ Fr (fun j => j = rb) w8 w') := by
            have h := delPR_any w8 0 rb (k + 2) re 0 (rps.map ptr) r3 hkl (by have := HSZ.out; omega)
            rw [List.take_zero, List.nil_append, ← List.map_drop] at h
            exact h
          have HLB := Lib.hid (And.intro r1 (r3.ne_ r1 (by decide)))
          clear r1 r2 r3
          go_wp2_with fail
          refine HDP.out.mono ?_
          clear HDP
          rintro e w9 ⟨rfl, hr9, hf9⟩
          obtain ⟨W9, hW9⟩ : ∃ W9, W9 = w9.setCell ⟨rg, 1, none⟩ (.slice (some ⟨rb, 0, none⟩) (k + 1) re) := ⟨_, rfl⟩
          have hset := Hd.setP tkAR HR8.out (B' := some ⟨rb, 0, none⟩) (e' := re) (n' := k + 1) (ps' := rps.drop 1) (by rw [List.length_drop, HLL.out]; rfl) hr9 (hf9.mono fun b _ e => ⟨_, rfl, e.symm⟩) (fun b hb => .inl hb)
          rw [← hW9] at hset
          have HS := Lib.hid hset
          have HB9 : Hid (Bk w9 rg 102 #[.slice (some ⟨ra, 0, none⟩) k rc, .slice (some ⟨rb, 0, none⟩) (k + 2) re]) := HLB.out.1.fr hf9 fun e => HLB.out.2 ⟨_, rfl, e.symm⟩
          have c9 := HB9.out.cell 1
          have f9 := HB9.out.free 1
          clear hset hr9 hf9
          go_wp2_with fail
          go_end0
          rw [← hW9]
          have hsz1 := HF1.out.size
          have hsz6 : w1.heap.size ≤ W6.heap.size := Nat.le_trans HF14.out.size HF46.out.size
          have hx8 := HX8.out
          have hlo2 : ∀ b, X8.own b → (Hd.mk lg' lA lc lB le lxs).own b ∨ w.heap.size ≤ b := fun b hb => by
            rcases hx8.2.2.2 b hb with h | h
            · rcases HLO.out b h with h | h
              · exact .inl h
              · exact .inr (by omega)
            · exact .inr (by omega)
          have e1 : lps ++ rps.take 1 = lps ++ [q] := by
            cases hr : rps with
            | nil => have h := HQQ.out; rw [hr] at h; cases h
            | cons x t => have h := HQQ.out; rw [hr] at h; injection h with h; subst h; rfl
          have hF9 := HS.out.2.1
          refine ⟨⟨_, rfl⟩, X8, ⟨rg, some ⟨ra, 0, none⟩, rc, some ⟨rb, 0, none⟩, re, ri⟩, ?_, hx8.2.1, ?_, hx8.2.2.1, hlo2, rfl, HS.out.1, rfl, fun b hb => .inl hb, fun b h1 h2 => ?_, ?_⟩
          · exact Hd.lies.fr HH8.out hF9 fun b h1 h2 => HD.out.2.1 b h1 h2
          · rw [e1]
            refine Hd.lies.fr hx8.1 hF9 fun b h1 h2 => ?_
            rcases hlo2 b h1 with h | h
            · exact HD.out.2.2 b h h2
            · have := HR.out.lt (b := b) h2; omega
          · rcases hlo2 b h1 with h | h
            · exact HD.out.2.2 b h h2
            · have := HR.out.lt (b := b) h2; omega
          · refine (HFall.out.step HF68.out fun b hb h => ?_).step hF9 fun b _ h => .inr (.inr h)
            rcases HLO.out b h with h | h
            · exact .inr (.inl h)
            · omega
end Go.Proofs.Ytkdcacajacndmaa
