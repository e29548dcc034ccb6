/- The document's Same, where two transactions are alike. Conditions: the transactions are small. -/
import Derived.Test.YtdgjjkmgdjiliaaRight2
import Derived.Test.YtdgjjkmgdjiliaaGreat
import Derived.Test.YtdgjjkmgdjiliaaApp2
import Derived.Test.YtdgjjkmgdjiliaaCopyL
namespace Go.Proofs.Ytdgjjkmgdjiliaa
open Go.RowKit

theorem strOf (w : World) (A : Option Addr) (n c : Nat) (l : List UInt8) (hn : n = l.length) (hr : Rd w A (cb l)) :
    (convert 96 9 (.slice A n c)).run Try.prog w = .ok (.string (bstr l)) w :=
  run_str w _ _ 5 Try.underlying96 Try.underlying5 Try.underlying9 A c l n hn hr

set_option maxRecDepth 100000 in
set_option maxHeartbeats 4000000 in
theorem same_yes (w : World) (t u : Tx) (ht : TxIn w t) (hu : TxIn w u) (hs : Small t) (hk : t.kind = u.kind) (hto : t.to = u.to) (hrd : t.reads = u.reads) (hwr : t.writes = u.writes) (hop : Alike t.ops u.ops) :
    Calls Try.prog 52 #[txv t, txv u] w fun e w' => e = .returned (.bool true) ∧ Fr NoBlk w w' := by
  have HF : Hid (Fr NoBlk w ((w.alloc (.cells (txa t) 35)).alloc (.cells (txa u) 35))) := ((Fr.refl _ _).alloc _).alloc _
  have HB := Lib.hid ((Bk.new w 35 (txa t)).alloc (.cells (txa u) 35))
  have HB2 := Lib.hid (Bk.new2 w (.cells (txa t) 35) 35 (txa u))
  have K1 := Lib.hid fun W (hf : Fr NoBlk w W) => sameTexts_any W t.ra u.ra _ _ t.rc u.rc t.reads u.reads rfl rfl (ht.reads.nofr hf) (hu.reads.nofr hf) (Nat.le_trans ht.rl.1 ht.rl.2.1) (Nat.le_trans hu.rl.1 hu.rl.2.1)
  have K2 := Lib.hid fun W (hf : Fr NoBlk w W) => sameTexts_any W t.wa u.wa _ _ t.wc u.wc t.writes u.writes rfl rfl (ht.writes.nofr hf) (hu.writes.nofr hf) (Nat.le_trans ht.wl.1 ht.wl.2.1) (Nat.le_trans hu.wl.1 hu.wl.2.1)
  have HT := Lib.hid ht
  have HU := Lib.hid hu
  have HOP := Lib.hid hop
  have hon := hs.o
  have hlen := hop.1
  clear ht hu hop hs
  unfold txa at HF HB HB2
  unfold txv txa
  rw [← hlen, ← hk, ← hto, ← hrd, ← hwr] at HF HB HB2 ⊢
  rw [← hrd] at K1
  rw [← hwr] at K2
  simp only [beq_self_eq_true] at K1 K2
  have HHL := Lib.hid hlen
  have HHK := Lib.hid hk
  clear hk hto hrd hwr hlen
  go_enter Try.func52, Try.ntmps52
  go_wp2_with fail
  refine (K1.out _ HF.out).mono ?_
  rintro e w1 ⟨rfl, hf1⟩
  have HF1 := Lib.hid (HF.out.trans hf1)
  have HB1 := Lib.hid (HB.out.fr hf1 (fun h => h))
  have HC1 := Lib.hid (HB2.out.fr hf1 (fun h => h))
  have c2 : w1.cell? ⟨w.heap.size, 2, none⟩ = some (.slice t.wa t.writes.length t.wc) := HB1.out.cell 2
  have d2 : w1.cell? ⟨w.heap.size + 1, 2, none⟩ = some (.slice u.wa t.writes.length u.wc) := HC1.out.cell 2
  clear hf1 HB HB2 HF
  go_wp2_with fail
  refine (K2.out _ HF1.out).mono ?_
  rintro e w2 ⟨rfl, hf2⟩
  have HF2 := Lib.hid (HF1.out.trans hf2)
  have HB2 := Lib.hid (HB1.out.fr hf2 (fun h => h))
  have HC2 := Lib.hid (HC1.out.fr hf2 (fun h => h))
  have c3 : w2.cell? ⟨w.heap.size, 3, none⟩ = some (.slice t.oa t.ops.length t.oc) := HB2.out.cell 3
  have d3 : w2.cell? ⟨w.heap.size + 1, 3, none⟩ = some (.slice u.oa t.ops.length u.oc) := HC2.out.cell 3
  clear hf2 HB1 HC1 HF1 c2 d2 K1 K2
  go_wp2_with fail
  go_loopw [5] (fun z wr => ∃ i : Nat, i ≤ t.ops.length ∧ z = .int .i64 i ∧ Hid (Fr NoBlk w2 wr)) (fun z _ => t.ops.length - (intOf z).toNat)
  case atStart => exact ⟨0, by omega, rfl, Fr.refl _ _⟩
  case round =>
    obtain ⟨i, hio, rfl, HFW⟩ := hrel
    have HF3 := Lib.hid (HF2.out.trans HFW.out)
    have HB3 := Lib.hid (HB2.out.fr HFW.out (fun h => h))
    have HC3 := Lib.hid (HC2.out.fr HFW.out (fun h => h))
    have c3 : wr.cell? ⟨w.heap.size, 3, none⟩ = some (.slice t.oa t.ops.length t.oc) := HB3.out.cell 3
    have d3 : wr.cell? ⟨w.heap.size + 1, 3, none⟩ = some (.slice u.oa t.ops.length u.oc) := HC3.out.cell 3
    by_cases hlt : i < t.ops.length
    · obtain ⟨x, hx⟩ : ∃ x, t.ops[i]? = some x := ⟨_, List.getElem?_eq_getElem hlt⟩
      obtain ⟨y, hy⟩ : ∃ y, u.ops[i]? = some y := ⟨_, List.getElem?_eq_getElem (by rw [← HHL.out]; exact hlt)⟩
      obtain ⟨a1, a2, a3, a4⟩ := HOP.out.2 i x y hx hy
      obtain ⟨b, o, hA, x0, x1, x2, x3⟩ := (HT.out.ops.nofr HF3.out).opn hx
      obtain ⟨b', o', hB, y0, y1, y2, y3⟩ := (HU.out.ops.nofr HF3.out).opn hy
      rw [hA] at c3
      rw [hB] at d3
      rw [← a1] at y0
      rw [← a2] at y1
      rw [← a4] at y3
      have hvx := HT.out.vals x (List.mem_of_getElem? hx)
      have hvy := HU.out.vals y (List.mem_of_getElem? hy)
      rw [← a3] at hvy
      unfold sl at y2
      rw [← a3] at y2
      have HVX := Lib.hid hvx.1
      have HVY : Hid (Rd w y.val.1 (cb x.val.2.2)) := by
        have := hvy.1.1
        rwa [a3]
      have hxl : x.val.2.2.length ≤ 9223372036854775807 := Nat.le_trans hvx.2.1 hvx.2.2.1
      clear hx hy hvx hvy hA hB a1 a2 a3 a4
      generalize y.val.1 = ya at *
      generalize y.val.2.1 = yc at *
      obtain ⟨kind, key, ⟨va, vc, vb⟩, nn⟩ := x
      unfold st at x1 y1
      unfold sl at x2
      dsimp only at x0 x1 x2 x3 y0 y1 y2 y3 HVX HVY hxl
      have i0' : (0 : Int) ≤ (i : Int) := by omega
      have i1' : (i : Int) < (t.ops.length : Int) := by omega
      have n1 := World.new_ne wr _ c3
      have n2 := World.new_ne wr _ d3
      have n3 := World.new_ne wr _ x0
      have n4 := World.new_ne wr _ y0
      dsimp only at n1 n2 n3 n4
      go_upto_region 6 with fail
      go_cut [6, 7] (fun s6 s7 wx => ∃ g1 g2 : Nat, s6 = .pointer (some ⟨g1, 0, none⟩) ∧ s7 = .pointer (some ⟨g2, 0, none⟩) ∧ Hid (Bk wx g1 98 #[.int .i64 kind, .string (bstr key), .slice va vb.length vc, .int .i64 nn]) ∧ Hid (Bk wx g2 98 #[.int .i64 kind, .string (bstr key), .slice ya vb.length yc, .int .i64 nn]) ∧ Hid (Fr NoBlk wr wx))
      case first =>
        go_region_held3 (fun w' => w'.cell? ⟨w.heap.size, 3, none⟩ = some (.slice (some ⟨b, o, none⟩) t.ops.length t.oc) ∧ w'.cell? ⟨w.heap.size + 1, 3, none⟩ = some (.slice (some ⟨b', o', none⟩) t.ops.length u.oc) ∧ w'.cell? ⟨b, o + i * 4, none⟩ = some (.int .i64 kind) ∧ w'.cell? ⟨b, o + i * 4 + 1, none⟩ = some (.string (bstr key)) ∧ w'.cell? ⟨b, o + i * 4 + 2, none⟩ = some (.slice va vb.length vc) ∧ w'.cell? ⟨b, o + i * 4 + 3, none⟩ = some (.int .i64 nn) ∧ w'.cell? ⟨b', o' + i * 4, none⟩ = some (.int .i64 kind) ∧ w'.cell? ⟨b', o' + i * 4 + 1, none⟩ = some (.string (bstr key)) ∧ w'.cell? ⟨b', o' + i * 4 + 2, none⟩ = some (.slice ya vb.length yc) ∧ w'.cell? ⟨b', o' + i * 4 + 3, none⟩ = some (.int .i64 nn))
          (go_keep) (fail)
        all_goals
          go_wp2_with fail
          go_meet
          first
          | exact ⟨_, _, rfl, rfl, (Bk.new wr _ _).alloc _, Bk.new2 wr _ _ _, (((Fr.refl _ _).alloc _).alloc _).drew⟩
          | exact ⟨_, _, rfl, rfl, Bk.new2 wr _ _ _, (Bk.new wr _ _).alloc _, (((Fr.refl _ _).alloc _).alloc _).drew⟩
      case rest =>
        obtain ⟨g1, g2, rfl, rfl, HG1, HG2, HFC⟩ := hcut
        have HFD := Lib.hid (HFW.out.trans HFC.out)
        have HFE := Lib.hid (HF2.out.trans HFD.out)
        have p0 : wc.cell? ⟨g1, 0, none⟩ = some (.int .i64 kind) := HG1.out.cell 0
        have p1 : wc.cell? ⟨g1, 1, none⟩ = some (.string (bstr key)) := HG1.out.cell 1
        have p2 : wc.cell? ⟨g1, 2, none⟩ = some (.slice va vb.length vc) := HG1.out.cell 2
        have p3 : wc.cell? ⟨g1, 3, none⟩ = some (.int .i64 nn) := HG1.out.cell 3
        have q0 : wc.cell? ⟨g2, 0, none⟩ = some (.int .i64 kind) := HG2.out.cell 0
        have q1 : wc.cell? ⟨g2, 1, none⟩ = some (.string (bstr key)) := HG2.out.cell 1
        have q2 : wc.cell? ⟨g2, 2, none⟩ = some (.slice ya vb.length yc) := HG2.out.cell 2
        have q3 : wc.cell? ⟨g2, 3, none⟩ = some (.int .i64 nn) := HG2.out.cell 3
        have s1 := strOf wc va _ vc vb rfl (HVX.out.1.nofr HFE.out)
        have s2 := strOf wc ya _ yc vb rfl (HVY.out.nofr HFE.out)
        clear c3 d3 x0 x1 x2 x3 y0 y1 y2 y3 n1 n2 n3 n4
        generalize vb.length = vl at *
        go_wp2_with fail
        go_roundw
        case rel => exact ⟨i + 1, by omega, by go_num, HFD⟩
        case measure => simp [intOf]; omega
    · go_wp2_with fail
      go_ret
      exact ⟨rfl, HF3.out⟩
end Go.Proofs.Ytdgjjkmgdjiliaa
