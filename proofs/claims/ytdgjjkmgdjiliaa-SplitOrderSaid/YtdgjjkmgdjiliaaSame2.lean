/- The document's Same, whatever two small transactions are. Conditions: the transactions are small. -/
import Derived.Test.YtdgjjkmgdjiliaaSame
import Derived.Test.YtdgjjkmgdjiliaaEqualF
namespace Go.Proofs.Ytdgjjkmgdjiliaa
open Go.RowKit

/-- two transactions are one. -/
def txSame (t u : Tx) : Bool := decide (t.kind = u.kind) && (decide (t.to = u.to) && ((t.reads == u.reads) && ((t.writes == u.writes) && opsSame t.ops u.ops)))
theorem ops_len {xs ys : List Opn} (h : xs.length ≠ ys.length) : opsSame xs ys = false := by
  unfold opsSame
  rw [decide_eq_false h]
  rfl
theorem bne_yes {a b : Int} (h : a ≠ b) : (a != b) = true := by rw [bne_iff_ne]; exact h
theorem beq_no {a b : Int} (h : a ≠ b) : (a == b) = false := by rw [beq_eq_false_iff_ne]; exact h

set_option maxRecDepth 100000 in
set_option maxHeartbeats 8000000 in
theorem same_any (w : World) (t u : Tx) (ht : TxIn w t) (hu : TxIn w u) (hs : Small t) (hs2 : Small u) :
    Calls Try.prog 52 #[txv t, txv u] w fun e w' => e = .returned (.bool (txSame t u)) ∧ Fr NoBlk w w' := by
  have HF : Hid (Fr NoBlk w ((w.alloc (.cells (txa t) 35)).alloc (.cells (txa u) 35))) := ((Fr.refl _ _).alloc _).alloc _
  have HB := Lib.hid ((Bk.new w 35 (txa t)).alloc (.cells (txa u) 35))
  have HB2 := Lib.hid (Bk.new2 w (.cells (txa t) 35) 35 (txa u))
  have K1 := Lib.hid fun W (hf : Fr NoBlk w W) => sameTexts_any W t.ra u.ra _ _ t.rc u.rc t.reads u.reads rfl rfl (ht.reads.nofr hf) (hu.reads.nofr hf) (Nat.le_trans ht.rl.1 ht.rl.2.1) (Nat.le_trans hu.rl.1 hu.rl.2.1)
  have K2 := Lib.hid fun W (hf : Fr NoBlk w W) => sameTexts_any W t.wa u.wa _ _ t.wc u.wc t.writes u.writes rfl rfl (ht.writes.nofr hf) (hu.writes.nofr hf) (Nat.le_trans ht.wl.1 ht.wl.2.1) (Nat.le_trans hu.wl.1 hu.wl.2.1)
  have HT := Lib.hid ht
  have HU := Lib.hid hu
  have hon := hs.o
  have hun := hs2.o
  have HD : Hid (txSame t u = (decide (t.kind = u.kind) && (decide (t.to = u.to) && ((t.reads == u.reads) && ((t.writes == u.writes) && opsSame t.ops u.ops))))) := rfl
  clear ht hu hs hs2
  generalize txSame t u = ans at *
  unfold txa at HF HB HB2
  unfold txv txa
  by_cases hk : t.kind = u.kind
  rotate_left
  · have g1 := bne_yes hk
    have g2 := beq_no hk
    have HQ : Hid (ans = false) := by show _ = _; rw [HD.out, decide_eq_false hk]; rfl
    clear hk
    go_enter Try.func52, Try.ntmps52
    go_wp2_with fail
    go_ret
    exact ⟨by rw [HQ.out]; rfl, HF.out⟩
  have HD := Lib.hid (HD.out.trans (by rw [decide_eq_true hk, Bool.true_and]))
  rw [← hk] at HF HB HB2 ⊢
  clear hk
  by_cases hto : t.to = u.to
  rotate_left
  · have g1 := bne_yes hto
    have g2 := beq_no hto
    have HQ : Hid (ans = false) := by show _ = _; rw [HD.out, decide_eq_false hto]; rfl
    clear hto
    go_enter Try.func52, Try.ntmps52
    go_wp2_with fail
    go_ret
    exact ⟨by rw [HQ.out]; rfl, HF.out⟩
  have HD := Lib.hid (HD.out.trans (by rw [decide_eq_true hto, Bool.true_and]))
  rw [← hto] at HF HB HB2 ⊢
  clear hto
  generalize hb1 : (t.reads == u.reads) = b1 at K1
  generalize hb2 : (t.writes == u.writes) = b2 at K2
  have HD := Lib.hid (HD.out.trans (by rw [hb1, hb2]))
  clear hb1 hb2
  go_enter Try.func52, Try.ntmps52
  go_wp2_with fail
  refine (K1.out _ HF.out).mono ?_
  rintro e w1 ⟨rfl, hf1⟩
  have HF1 := Lib.hid (HF.out.trans hf1)
  have HB1 := Lib.hid (HB.out.fr hf1 (fun h => h))
  have HC1 := Lib.hid (HB2.out.fr hf1 (fun h => h))
  have c2 : w1.cell? ⟨w.heap.size, 2, none⟩ = some (.slice t.wa t.writes.length t.wc) := HB1.out.cell 2
  have d2 : w1.cell? ⟨w.heap.size + 1, 2, none⟩ = some (.slice u.wa u.writes.length u.wc) := HC1.out.cell 2
  clear hf1 HB HB2 HF
  cases b1
  · have HQ : Hid (ans = false) := by show _ = _; rw [HD.out]; rfl
    go_wp2_with fail
    go_ret
    exact ⟨by rw [HQ.out]; rfl, HF1.out⟩
  go_wp2_with fail
  refine (K2.out _ HF1.out).mono ?_
  rintro e w2 ⟨rfl, hf2⟩
  have HF2 := Lib.hid (HF1.out.trans hf2)
  have HB2 := Lib.hid (HB1.out.fr hf2 (fun h => h))
  have HC2 := Lib.hid (HC1.out.fr hf2 (fun h => h))
  have c3 : w2.cell? ⟨w.heap.size, 3, none⟩ = some (.slice t.oa t.ops.length t.oc) := HB2.out.cell 3
  have d3 : w2.cell? ⟨w.heap.size + 1, 3, none⟩ = some (.slice u.oa u.ops.length u.oc) := HC2.out.cell 3
  clear hf2 HB1 HC1 HF1 c2 d2 K1 K2
  cases b2
  · have HQ : Hid (ans = false) := by show _ = _; rw [HD.out]; rfl
    go_wp2_with fail
    go_ret
    exact ⟨by rw [HQ.out]; rfl, HF2.out⟩
  have HD := Lib.hid (HD.out.trans (by rw [Bool.true_and, Bool.true_and]))
  by_cases hlen : t.ops.length = u.ops.length
  rotate_left
  · have g1 := bne_yes (a := (t.ops.length : Int)) (b := (u.ops.length : Int)) (by omega)
    have g2 := beq_no (a := (t.ops.length : Int)) (b := (u.ops.length : Int)) (by omega)
    have g3 : decide (t.ops.length = u.ops.length) = false := by simpa using hlen
    have HQ : Hid (ans = false) := by show _ = _; rw [HD.out, ops_len hlen]
    clear hlen
    go_wp2_with fail
    go_ret
    exact ⟨by rw [HQ.out]; rfl, HF2.out⟩
  have HHL := Lib.hid hlen
  rw [← hlen] at d3
  clear hlen
  go_wp2_with fail
  go_loopw [5] (fun z wr => ∃ i : Nat, i ≤ t.ops.length ∧ z = .int .i64 i ∧ Hid (∀ (j : Nat) (x y : Opn), j < i → t.ops[j]? = some x → u.ops[j]? = some y → opSame x y = true) ∧ Hid (Fr NoBlk w2 wr)) (fun z _ => t.ops.length - (intOf z).toNat)
  case atStart => exact ⟨0, by omega, rfl, (fun j _ _ h1 => absurd h1 (by omega)), Fr.refl _ _⟩
  case round =>
    obtain ⟨i, hio, rfl, HE, HFW⟩ := hrel
    have HF3 := Lib.hid (HF2.out.trans HFW.out)
    have HB3 := Lib.hid (HB2.out.fr HFW.out (fun h => h))
    have HC3 := Lib.hid (HC2.out.fr HFW.out (fun h => h))
    have c3 : wr.cell? ⟨w.heap.size, 3, none⟩ = some (.slice t.oa t.ops.length t.oc) := HB3.out.cell 3
    have d3 : wr.cell? ⟨w.heap.size + 1, 3, none⟩ = some (.slice u.oa u.ops.length u.oc) := HC3.out.cell 3
    rw [← HHL.out] at d3
    by_cases hlt : i < t.ops.length
    · obtain ⟨x, hx⟩ : ∃ x, t.ops[i]? = some x := ⟨_, List.getElem?_eq_getElem hlt⟩
      obtain ⟨y, hy⟩ : ∃ y, u.ops[i]? = some y := ⟨_, List.getElem?_eq_getElem (by rw [← HHL.out]; exact hlt)⟩
      obtain ⟨b, o, hA, x0, x1, x2, x3⟩ := (HT.out.ops.nofr HF3.out).opn hx
      obtain ⟨b', o', hB, y0, y1, y2, y3⟩ := (HU.out.ops.nofr HF3.out).opn hy
      rw [hA] at c3
      rw [hB] at d3
      have hvx := HT.out.vals x (List.mem_of_getElem? hx)
      have hvy := HU.out.vals y (List.mem_of_getElem? hy)
      have HVX := Lib.hid hvx.1
      have HVY := Lib.hid hvy.1
      have HNX : Hid (opSame x y = true → ∀ (j : Nat) (x y : Opn), j < i + 1 → t.ops[j]? = some x → u.ops[j]? = some y → opSame x y = true) := by
        intro h j x' y' hj2 hx' hy'
        by_cases e : j = i
        · subst e
          rw [hx] at hx'
          rw [hy] at hy'
          injection hx' with hx'
          injection hy' with hy'
          subst hx' hy'
          exact h
        · exact HE.out j x' y' (by omega) hx' hy'
      have HNO : Hid (opSame x y = false → ans = false) := fun h => by rw [HD.out]; exact opsSame_no hx hy h
      have hxl : x.val.2.2.length ≤ 9223372036854775807 := Nat.le_trans hvx.2.1 hvx.2.2.1
      have hyl : y.val.2.2.length ≤ 9223372036854775807 := Nat.le_trans hvy.2.1 hvy.2.2.1
      clear hx hy hvx hvy hA hB
      obtain ⟨kind, key, ⟨va, vc, vb⟩, nn⟩ := x
      obtain ⟨kind', key', ⟨ya, yc, yb⟩, nn'⟩ := y
      unfold st at x1 y1
      unfold sl at x2 y2
      dsimp only at x0 x1 x2 x3 y0 y1 y2 y3 HVX HVY hxl hyl
      have HOS : Hid (opSame ⟨kind, key, ⟨va, vc, vb⟩, nn⟩ ⟨kind', key', ⟨ya, yc, yb⟩, nn'⟩ = (decide (kind = kind') && (key == key') && decide (nn = nn') && (vb == yb))) := rfl
      generalize opSame ⟨kind, key, ⟨va, vc, vb⟩, nn⟩ ⟨kind', key', ⟨ya, yc, yb⟩, nn'⟩ = os at *
      have i0' : (0 : Int) ≤ (i : Int) := by omega
      have i1' : (i : Int) < (t.ops.length : Int) := by omega
      have n1 := World.new_ne wr _ c3
      have n2 := World.new_ne wr _ d3
      have n3 := World.new_ne wr _ x0
      have n4 := World.new_ne wr _ y0
      dsimp only at n1 n2 n3 n4
      go_upto_region 6 with fail
      go_cut [6, 7] (fun s6 s7 wx => ∃ g1 g2 : Nat, s6 = .pointer (some ⟨g1, 0, none⟩) ∧ s7 = .pointer (some ⟨g2, 0, none⟩) ∧ Hid (Bk wx g1 98 #[.int .i64 kind, .string (bstr key), .slice va vb.length vc, .int .i64 nn]) ∧ Hid (Bk wx g2 98 #[.int .i64 kind', .string (bstr key'), .slice ya yb.length yc, .int .i64 nn']) ∧ Hid (Fr NoBlk wr wx))
      case first =>
        go_region_held3 (fun w' => w'.cell? ⟨w.heap.size, 3, none⟩ = some (.slice (some ⟨b, o, none⟩) t.ops.length t.oc) ∧ w'.cell? ⟨w.heap.size + 1, 3, none⟩ = some (.slice (some ⟨b', o', none⟩) t.ops.length u.oc) ∧ w'.cell? ⟨b, o + i * 4, none⟩ = some (.int .i64 kind) ∧ w'.cell? ⟨b, o + i * 4 + 1, none⟩ = some (.string (bstr key)) ∧ w'.cell? ⟨b, o + i * 4 + 2, none⟩ = some (.slice va vb.length vc) ∧ w'.cell? ⟨b, o + i * 4 + 3, none⟩ = some (.int .i64 nn) ∧ w'.cell? ⟨b', o' + i * 4, none⟩ = some (.int .i64 kind') ∧ w'.cell? ⟨b', o' + i * 4 + 1, none⟩ = some (.string (bstr key')) ∧ w'.cell? ⟨b', o' + i * 4 + 2, none⟩ = some (.slice ya yb.length yc) ∧ w'.cell? ⟨b', o' + i * 4 + 3, none⟩ = some (.int .i64 nn'))
          (go_keep) (fail)
        all_goals
          go_wp2_with fail
          go_meet
          first
          | exact ⟨_, _, rfl, rfl, (Bk.new wr _ _).alloc _, Bk.new2 wr _ _ _, (((Fr.refl _ _).alloc _).alloc _).drew⟩
          | exact ⟨_, _, rfl, rfl, Bk.new2 wr _ _ _, (Bk.new wr _ _).alloc _, (((Fr.refl _ _).alloc _).alloc _).drew⟩
      case rest =>
        obtain ⟨g1, g2, rfl, rfl, HG1, HG2, HFC⟩ := hcut
        have HFD := Lib.hid (HFW.out.trans HFC.out)
        have HFE := Lib.hid (HF2.out.trans HFD.out)
        have p0 : wc.cell? ⟨g1, 0, none⟩ = some (.int .i64 kind) := HG1.out.cell 0
        have p1 : wc.cell? ⟨g1, 1, none⟩ = some (.string (bstr key)) := HG1.out.cell 1
        have p2 : wc.cell? ⟨g1, 2, none⟩ = some (.slice va vb.length vc) := HG1.out.cell 2
        have p3 : wc.cell? ⟨g1, 3, none⟩ = some (.int .i64 nn) := HG1.out.cell 3
        have q0 : wc.cell? ⟨g2, 0, none⟩ = some (.int .i64 kind') := HG2.out.cell 0
        have q1 : wc.cell? ⟨g2, 1, none⟩ = some (.string (bstr key')) := HG2.out.cell 1
        have q2 : wc.cell? ⟨g2, 2, none⟩ = some (.slice ya yb.length yc) := HG2.out.cell 2
        have q3 : wc.cell? ⟨g2, 3, none⟩ = some (.int .i64 nn') := HG2.out.cell 3
        have s1 := strOf wc va _ vc vb rfl (HVX.out.1.nofr HFE.out)
        have s2 := strOf wc ya _ yc yb rfl (HVY.out.1.nofr HFE.out)
        clear c3 d3 x0 x1 x2 x3 y0 y1 y2 y3 n1 n2 n3 n4 HVX HVY
        have e3 := bstr_toList key
        have e4 := bstr_toList key'
        have e5 := bstr_toList vb
        have e6 := bstr_toList yb
        generalize vb.length = vl at *
        generalize yb.length = yl at *
        by_cases hk : kind = kind'
        rotate_left
        · have g1 := bne_yes hk
          have g2 := beq_no hk
          have HQ : Hid (ans = false) := HNO.out (by rw [HOS.out, decide_eq_false hk]; rfl)
          clear hk
          go_wp2_with fail
          go_ret
          exact ⟨by rw [HQ.out]; rfl, HFE.out⟩
        subst hk
        by_cases hab : key = key'
        rotate_left
        · have g2 : (key == key') = false := by rw [beq_eq_false_iff_ne]; exact hab
          have g3 : decide (key = key') = false := by simpa using hab
          have HQ : Hid (ans = false) := HNO.out (by rw [HOS.out, g2, Bool.and_false]; rfl)
          clear hab
          go_wp2_with fail
          go_ret
          exact ⟨by rw [HQ.out]; rfl, HFE.out⟩
        subst hab
        by_cases hn : nn = nn'
        rotate_left
        · have g1 := bne_yes hn
          have g2 := beq_no hn
          have HQ : Hid (ans = false) := HNO.out (by rw [HOS.out, decide_eq_false hn, Bool.and_false]; rfl)
          clear hn
          go_wp2_with fail
          go_ret
          exact ⟨by rw [HQ.out]; rfl, HFE.out⟩
        subst hn
        by_cases hv : vb = yb
        rotate_left
        · have g2 : (vb == yb) = false := by rw [beq_eq_false_iff_ne]; exact hv
          have g3 : decide (vb = yb) = false := by simpa using hv
          have HQ : Hid (ans = false) := HNO.out (by rw [HOS.out, g2, Bool.and_false])
          clear hv
          go_wp2_with fail
          go_ret
          exact ⟨by rw [HQ.out]; rfl, HFE.out⟩
        subst hv
        have HE2 := Lib.hid (HNX.out (by rw [HOS.out]; simp))
        clear HNX HNO HOS
        go_wp2_with fail
        go_roundw
        case rel => exact ⟨i + 1, by omega, by go_num, HE2, HFD⟩
        case measure => simp [intOf]; omega
    · have HQ : Hid (ans = true) := by
        show _ = _
        rw [HD.out]
        exact opsSame_yes HHL.out fun j x y hx hy => HE.out j x y (by have := (List.getElem?_eq_some_iff.1 hx).1; omega) hx hy
      go_wp2_with fail
      go_ret
      exact ⟨by rw [HQ.out]; rfl, HF3.out⟩
end Go.Proofs.Ytdgjjkmgdjiliaa
