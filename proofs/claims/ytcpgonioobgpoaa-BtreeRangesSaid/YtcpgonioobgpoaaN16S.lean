/- Delete of trees. Conditions: at most 100000 keys. -/
import Derived.Test.YtcpgonioobgpoaaN15S
import Derived.Test.YtcpgonioobgpoaaN4S

namespace Go.Proofs.Ytcpgonioobgpoaa
open Go.RowKit
theorem delL_len {A V : Type} {lt : A → A → Bool} (L : Lin lt) {key : A} {u : V} {xs : List (A × V)} (hu : UpI lt xs) (hm : (key, u) ∈ xs) : (delL lt key xs).length + 1 = xs.length := by
  obtain ⟨P, Q, rfl⟩ := mem_split hm
  obtain ⟨h1, h2⟩ := up_mid L hu
  rw [delL_mid L h1 h2, delL_at L]
  simp only [List.length_append, List.length_nil, List.length_singleton]
  omega
def TreeDelS (w : World) (g : Nat) (O : Nat → Prop) (xs : List ItS) (key : Bs) (e : Ending) (w' : World) : Prop :=
  ∃ (old : Int) (had : Bool) (O' : Nat → Prop), e = .returned (.tuple #[.int .i64 old, .bool had]) ∧ Lk (0 : Int) key xs had old ∧ TreeS w' g O' (delL Op.bytesLess key xs) ∧ Stp w w' O O'
set_option maxRecDepth 100000 in
set_option maxHeartbeats 1000000 in
theorem treeDelS_any (w : World) (g : Nat) (O : Nat → Prop) (xs : List ItS) (h : TreeS w g O xs) (hlen : xs.length ≤ 100000) (key : Bs) :
    Calls Try.prog 12 #[.pointer (some ⟨g, 0, none⟩), .string (bstr key)] w (TreeDelS w g O xs key) := by
  obtain ⟨d, t, h1, ho, rfl, hu, hn, hd, hg, hO⟩ := h
  have c0 : w.cell? ⟨g, 0, none⟩ = some (.pointer (some ⟨t.g, 0, none⟩)) := h1.cell 0
  have HP := Lib.hid (takeS_any key w t ho hu hn hd)
  have H1 := Lib.hid h1
  have HO := Lib.hid ho
  have HU := Lib.hid hu
  have HN := Lib.hid hn
  have HDD := Lib.hid hd
  have HG := Lib.hid hg
  have HOO := Lib.hid hO
  have HLEN := Lib.hid hlen
  clear h1 ho hu hn hd hg hO hlen
  obtain ⟨tg, htg⟩ : ∃ tg, tg = t.g := ⟨_, rfl⟩
  rw [← htg] at c0 HP
  have HTG := Lib.hid htg
  clear htg
  go_enter Try.func12, Try.ntmps12
  go_wp2_with fail
  refine HP.out.mono ?_
  clear HP c0
  rintro e w1 ⟨old, had, t', rfl, hlk, hok, hfl, hgg, hn1, hn2, hnh, hst⟩
  have HB1 : Hid (Bk w1 g 69 #[.pointer (some ⟨tg, 0, none⟩), .int .i64 t.flat.length]) := by
    show Bk _ _ _ _
    rw [HTG.out]
    exact H1.out.fr hst.fr HG.out
  have HLK := Lib.hid hlk
  have HOK := Lib.hid hok
  have HFL := Lib.hid hfl
  have HGG : Hid (t'.g = tg) := hgg.trans HTG.out.symm
  have HN1 := Lib.hid hn1
  have HNH := Lib.hid hnh
  have HST := Lib.hid hst
  have HUP : Hid (UpI Op.bytesLess t'.flat) := by show UpI _ _; rw [hfl]; exact HU.out.del
  have HG1 : Hid (¬ t'.own g) := fun e => by
    rcases hst.new g e with h | h
    · exact HG.out h
    · have := H1.out.lt; omega
  clear hlk hok hfl hgg hn1 hn2 hnh hst
  have HS0 : Hid (Stp w w1 O fun b => b = g ∨ t'.own b) := HST.out.mono (fun b hb => (HOO.out b).2 (.inr hb)) fun b hb => by
    rcases hb with rfl | hb
    · exact .inr (.inl ((HOO.out _).2 (.inl rfl)))
    · exact .inl hb
  cases had with
  | false =>
    go_wp2_with fail
    go_ret2
    have hdl : delL Op.bytesLess key t.flat = t.flat := delL_no linS HLK.out.none_of
    have hnn : t'.n = t.n := HNH.out trivial
    refine ⟨old, false, fun b => b = g ∨ t'.own b, rfl, HLK.out, ⟨d, t', ?_, HOK.out, HFL.out, HFL.out ▸ HUP.out, by rw [hnn]; exact HN.out, by rw [hnn]; exact HDD.out, HG1.out, fun b => Iff.rfl⟩, HS0.out⟩
    rw [hdl]
    have h := HB1.out
    rw [← HGG.out] at h
    exact h
  | true =>
    obtain ⟨nn, hnn⟩ : ∃ nn, nn = (delL Op.bytesLess key t.flat).length := ⟨_, rfl⟩
    have hlen : nn + 1 = t.flat.length := by rw [hnn]; exact delL_len linS HU.out HLK.out.some_of
    have HNN := Lib.hid hnn
    have HB1' : Hid (Bk w1 g 69 #[.pointer (some ⟨tg, 0, none⟩), .int .i64 ((nn : Int) + 1)]) := by
      have h := HB1.out
      rw [← hlen] at h
      exact h
    have hwr : IntKind.i64.wrap (nn : Int) = (nn : Int) := by have := HLEN.out; exact IntWalk.i64_in _ (by omega)
    clear hnn hlen HB1
    obtain ⟨W2, hW2⟩ : ∃ W2, W2 = w1.setCell ⟨g, 1, none⟩ (.int .i64 (nn : Int)) := ⟨_, rfl⟩
    have hf12 : Fr (fun b => b = g) w1 W2 := by rw [hW2]; exact (Fr.refl (fun b => b = g) w1).setCell (p := ⟨g, 1, none⟩) (fun _ => rfl) _
    have HB2 : Hid (Bk W2 g 69 #[.pointer (some ⟨tg, 0, none⟩), .int .i64 (nn : Int)]) := by show Bk _ _ _ _; rw [hW2]; exact HB1'.out.put 1 _
    have HOK2 : Hid (t'.ok tkS W2) := HOK.out.fr hf12 fun b hb e => HG1.out (e ▸ hb)
    have HF12 := Lib.hid hf12
    obtain ⟨kn, hkn⟩ : ∃ kn, kn = t'.hd.xs.length := ⟨_, rfl⟩
    have HKN := Lib.hid hkn
    have c1 : w1.cell? ⟨g, 1, none⟩ = some (.int .i64 ((nn : Int) + 1)) := HB1'.out.cell 1
    have f1 := HB1'.out.free 1
    have c2 : (w1.setCell ⟨g, 1, none⟩ (.int .i64 (nn : Int))).cell? ⟨g, 0, none⟩ = some (.pointer (some ⟨tg, 0, none⟩)) := by rw [← hW2]; exact HB2.out.cell 0
    have hT := (Tr.lies_hd HOK2.out.lies).1
    have c3 : (w1.setCell ⟨g, 1, none⟩ (.int .i64 (nn : Int))).cell? ⟨tg, 0, none⟩ = some (.slice t'.hd.A kn t'.hd.c) := by
      rw [← hW2, hkn, ← HGG.out]
      exact hT.cell 0
    obtain ⟨np, hnp⟩ : ∃ np, np = t'.ptrs.length := ⟨_, rfl⟩
    have HLF : Hid (Calls Try.prog 38 #[.pointer (some ⟨tg, 0, none⟩)] W2 fun en w' => en = .returned (.bool (decide (np = 0))) ∧ W2 = w') := leafS_any W2 tg t'.hd.A kn t'.hd.c t'.hd.B np t'.hd.e (by rw [hkn, hnp, ← HGG.out]; exact hT)
    have HNP := Lib.hid hnp
    clear hf12 hkn hT hnp
    have keep : (d = 0 ∨ 1 ≤ t'.n) → TreeDelS w g O t.flat key (.returned (.tuple #[.int .i64 old, .bool true])) W2 := fun hdn => by
      refine ⟨old, true, fun b => b = g ∨ t'.own b, rfl, HLK.out, ⟨d, t', ?_, HOK2.out, HFL.out, HFL.out ▸ HUP.out, Nat.le_trans HN1.out HN.out, hdn, HG1.out, fun b => Iff.rfl⟩, HS0.out.trans ⟨HF12.out.mono fun b _ e => .inl e, fun b hb => .inl hb⟩⟩
      rw [← HNN.out]
      have h := HB2.out
      rw [← HGG.out] at h
      exact h
    have HKEEP := Lib.hid keep
    clear keep
    by_cases hk0 : kn = 0
    · cases d with
      | zero =>
        obtain rfl : np = 0 := HNP.out
        have HLF0 : Hid (Calls Try.prog 38 #[.pointer (some ⟨tg, 0, none⟩)] W2 fun en w' => en = .returned (.bool true) ∧ W2 = w') := HLF.out
        subst hk0
        clear HLF
        go_wp2_with fail
        rw [← hW2]
        refine HLF0.out.mono ?_
        rintro e w3 ⟨rfl, rfl⟩
        go_wp2_with fail
        go_ret2
        have hkp := HKEEP.out (.inl trivial)
        obtain ⟨o2, hd2, O2, e2, r2⟩ := hkp
        rw [hW2] at r2
        exact ⟨o2, hd2, O2, e2, r2⟩
      | succ d =>
        obtain ⟨⟨hg, hA, hc, hB, he, hxs⟩, ks⟩ := t'
        have hx0 : hxs = [] := List.eq_nil_of_length_eq_zero (by have h : kn = hxs.length := HKN.out; omega)
        have hks : ks.length = hxs.length + 1 := HOK2.out.shape.1
        subst hx0
        obtain ⟨c, rfl⟩ : ∃ c, ks = [c] := by
          match ks, hks with
          | [c], _ => exact ⟨c, rfl⟩
        obtain rfl : np = 1 := HNP.out
        have hkid := HOK2.out.kid (List.mem_singleton.2 rfl)
        have hgt : hg = tg := HGG.out
        subst hgt
        obtain ⟨b1, b2, b3⟩ : (Hd.mk hg hA hc hB he ([] : List ItS)).lies tkS W2 [c.g] := HOK2.out.lies.1
        unfold tkS at b1 b3
        dsimp only at b1 b3
        obtain ⟨pb, rfl⟩ := b3.addr (Nat.succ_pos 0)
        have HLF0 : Hid (Calls Try.prog 38 #[.pointer (some ⟨hg, 0, none⟩)] W2 fun en w' => en = .returned (.bool false) ∧ W2 = w') := HLF.out
        have q1 : W2.cell? ⟨hg, 1, none⟩ = some (.slice (some ⟨pb, 0, none⟩) 1 he) := b1.cell 1
        have q2 : W2.cell? ⟨pb, 0, none⟩ = some (.pointer (some ⟨c.g, 0, none⟩)) := b3.cellP (ps := [c.g]) rfl
        have q0 : W2.cell? ⟨g, 0, none⟩ = some (.pointer (some ⟨hg, 0, none⟩)) := HB2.out.cell 0
        have s0 := HB2.out.free 0
        obtain ⟨W3, hW3⟩ : ∃ W3, W3 = W2.setCell ⟨g, 0, none⟩ (.pointer (some ⟨c.g, 0, none⟩)) := ⟨_, rfl⟩
        have hf23 : Fr (fun b => b = g) W2 W3 := by rw [hW3]; exact (Fr.refl (fun b => b = g) W2).setCell (p := ⟨g, 0, none⟩) (fun _ => rfl) _
        have hco : ∀ b, c.own b → (Tr.node ⟨hg, hA, hc, some ⟨pb, 0, none⟩, he, ([] : List ItS)⟩ [c]).own b := fun b hb => .inr ⟨c, List.mem_singleton.2 rfl, hb⟩
        have HC3 : Hid (c.ok tkS W3) := hkid.1.fr hf23 fun b hb e => HG1.out (e ▸ hco b hb)
        have HB3 : Hid (Bk W3 g 69 #[.pointer (some ⟨c.g, 0, none⟩), .int .i64 (nn : Int)]) := by show Bk _ _ _ _; rw [hW3]; exact HB2.out.put 0 _
        have HCK := Lib.hid (And.intro hkid.2 hco)
        have HF23 := Lib.hid hf23
        have HFC : Hid (c.flat = delL Op.bytesLess key t.flat) := by
          have h : weave [c.flat] ([] : List ItS) = delL Op.bytesLess key t.flat := HFL.out
          show _ = _
          rw [← h]
          simp [weave]
        subst hk0
        clear HLF b1 b2 b3 hkid hks hf23 hco HKEEP
        go_wp2_with fail
        rw [← hW2]
        refine HLF0.out.mono ?_
        rintro e w3 ⟨rfl, rfl⟩
        clear hW2 HLF0
        go_wp2_with fail
        go_ret2
        rw [← hW3]
        refine ⟨old, true, fun b => b = g ∨ c.own b, rfl, HLK.out, ⟨d, c, ?_, HC3.out, HFC.out, HU.out.del, HCK.out.1.2, .inr (by have := HCK.out.1.1; omega), fun h => HG1.out (HCK.out.2 g h), fun b => Iff.rfl⟩, (HS0.out.trans (o1 := fun b => b = g ∨ (Tr.node ⟨hg, hA, hc, some ⟨pb, 0, none⟩, he, ([] : List ItS)⟩ [c]).own b) ⟨HF12.out.mono fun b _ e => .inl e, fun b hb => .inl hb⟩).trans ⟨HF23.out.mono fun b _ e => .inl e, fun b hb => ?_⟩⟩
        · rw [← HNN.out]
          exact HB3.out
        · rcases hb with hb | hb
          · exact .inl (.inl hb)
          · exact .inl (.inr (HCK.out.2 b hb))
    · have hke : ((kn : Int) == 0) = false := beq_eq_false_iff_ne.2 (by omega)
      have hk1 : Hid (1 ≤ t'.n) := by have h : kn = t'.n := HKN.out; show 1 ≤ t'.n; omega
      clear HLF
      go_wp2_with fail
      go_ret2
      rw [← hW2]
      exact HKEEP.out (.inr hk1.out)
end Go.Proofs.Ytcpgonioobgpoaa
