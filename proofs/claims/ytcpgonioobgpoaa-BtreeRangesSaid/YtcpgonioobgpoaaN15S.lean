/- take: a key is taken out of the tree at or below a node. Conditions: as the tree's shape has them. -/
import Derived.Test.YtcpgonioobgpoaaN14S

namespace Go.Proofs.Ytcpgonioobgpoaa
open Go.RowKit
def TakeSPost (w : World) {d : Nat} (t : Tr ItS d) (key : Bs) (e : Ending) (w' : World) : Prop :=
  ∃ (old : Int) (had : Bool) (t' : Tr ItS d), e = .returned (.tuple #[.int .i64 old, .bool had]) ∧ Lk (0 : Int) key t.flat had old ∧ t'.ok tkS w' ∧ t'.flat = delL Op.bytesLess key t.flat ∧ t'.g = t.g ∧ t'.n ≤ t.n ∧ t.n ≤ t'.n + 1 ∧ (had = false → t'.n = t.n) ∧ Stp w w' t.own t'.own
/-- what stands in memory when a child's last item has come into the node. -/
def TkRelS (w1 wx : World) {d : Nat} (h : Hd ItS) (a : List (Tr ItS d)) (k : Tr ItS d) (b : List (Tr ItS d)) : Prop :=
  ∃ (x : ItS) (k' : Tr ItS d) (P : List ItS), k.flat = P ++ [x] ∧ k'.flat = P ∧ Tr.lack tkS wx { h with xs := h.xs.set a.length x } a k' b ∧ Stp w1 wx (Tr.node h (a ++ [k] ++ b)).own (Tr.node { h with xs := h.xs.set a.length x } (a ++ [k'] ++ b)).own
/-- the item of the key's place given for the last one ahead of it. -/
theorem take_flat {K V : Type} {lt : K → K → Bool} (L : Lin lt) {d : Nat} {h : Hd (K × V)} {a b : List (Tr (K × V) d)} {k k' : Tr (K × V) d} {key : K} {u : V} {x : K × V} {P : List (K × V)} (hl : (a ++ [k] ++ b).length = h.xs.length + 1) (hu : UpI lt (Tr.node h (a ++ [k] ++ b)).flat) (hx : h.xs[a.length]? = some (key, u)) (hk : k.flat = P ++ [x]) (hk' : k'.flat = P) :
    (Tr.node { h with xs := h.xs.set a.length x } (a ++ [k'] ++ b)).flat = delL lt key (Tr.node h (a ++ [k] ++ b)).flat := by
  have hil := (List.getElem?_eq_some_iff.1 hx).1
  cases b with
  | nil => simp at hl; omega
  | cons r b =>
    have hl2 := hl
    simp only [List.length_append, List.length_cons, List.length_nil] at hl2
    have hb : (h.xs.drop (a.length + 1)).length = b.length := by rw [List.length_drop]; omega
    have e1 : a ++ [k] ++ r :: b = a ++ [k, r] ++ b := by simp
    have e2 : a ++ [k'] ++ r :: b = a ++ [k', r] ++ b := by simp
    rw [e1] at hu ⊢
    rw [e2]
    rw [Tr.flat_two (h := h) (list_mid hx) (by rw [List.length_take]; omega) hb] at hu ⊢
    rw [Tr.flat_two (h := { h with xs := h.xs.set a.length x }) (set_mid hx x) (by rw [List.length_take]; omega) hb, hk, hk']
    rw [hk] at hu
    have e3 : ∀ z : List (K × V), preW (a.map Tr.flat) (h.xs.take a.length) ++ (P ++ [x] ++ (key, u) :: r.flat) ++ z = (preW (a.map Tr.flat) (h.xs.take a.length) ++ (P ++ [x])) ++ [(key, u)] ++ (r.flat ++ z) := fun z => by simp
    rw [e3] at hu ⊢
    obtain ⟨h1, h2⟩ := up_mid L hu
    rw [delL_mid L h1 h2, delL_at L]
    simp
theorem lack_cellS {w : World} {d : Nat} {h : Hd ItS} {a b : List (Tr ItS d)} {k : Tr ItS d} (hl : Tr.lack tkS w h a k b) {n : Nat} (hn : n = h.xs.length) : w.cell? ⟨h.g, 0, none⟩ = some (.slice h.A n h.c) := by
  subst hn
  exact hl.lies.1.1.cell 0
set_option maxRecDepth 100000 in
set_option maxHeartbeats 1000000 in
theorem takeS_any (key : Bs) : ∀ {d : Nat} (w : World) (t : Tr ItS d), t.ok tkS w → UpI Op.bytesLess t.flat → t.n ≤ 16 → (d = 0 ∨ 1 ≤ t.n) → Calls Try.prog 37 #[.pointer (some ⟨t.g, 0, none⟩), .string (bstr key)] w (TakeSPost w t key) := by
  intro d
  induction d with
  | zero =>
    intro w t o hu h16 _
    obtain ⟨hg, hA, hc, hB, he, hxs⟩ := t
    have hu0 : UpI Op.bytesLess hxs := hu
    have h16' : hxs.length ≤ 16 := h16
    have hl : (Hd.mk hg hA hc hB he hxs).lies tkS w [] := o.lies
    obtain ⟨b1, b2, b3⟩ := hl
    have hl : (Hd.mk hg hA hc hB he hxs).lies tkS w [] := o.lies
    unfold tkS at b1 b2 b3
    dsimp only at b1 b2 b3
    have HFD := Lib.hid (findS_any w hA hc hxs key b2.rd hu0 (by omega))
    obtain ⟨n, hnn⟩ : ∃ n, n = hxs.length := ⟨_, rfl⟩
    rw [← hnn] at b1 b2 HFD
    have c0 : w.cell? ⟨hg, 0, none⟩ = some (.slice hA n hc) := b1.cell 0
    have B1 := Lib.hid b1
    have B2 := Lib.hid b2
    have HL := Lib.hid hl
    have HO := Lib.hid o
    have HU := Lib.hid hu0
    have HN : Hid (n = hxs.length ∧ n ≤ 16) := ⟨hnn, by omega⟩
    clear b1 b2 b3 hl o hu0 hu h16 h16' hnn
    show Calls _ _ #[.pointer (some ⟨hg, 0, none⟩), _] _ _
    go_enter Try.func37, Try.ntmps37
    go_wp2_with fail
    refine HFD.out.mono ?_
    clear HFD
    rintro e w1 ⟨i, fd, rfl, hi, hfd, hf1⟩
    have HI := Lib.hid hi
    have HFD := Lib.hid hfd
    have HF1 := Lib.hid hf1
    have B11 := Lib.hid (B1.out.fr hf1 fun h => h)
    have B21 := Lib.hid (B2.out.fr hf1 fun _ _ h => h)
    have HL1 := Lib.hid (HL.out.fr hf1 fun _ _ h => h)
    have c0 : w1.cell? ⟨hg, 0, none⟩ = some (.slice hA n hc) := B11.out.cell 0
    have HLF : Hid (Calls Try.prog 38 #[.pointer (some ⟨hg, 0, none⟩)] w1 fun en w' => en = .returned (.bool true) ∧ w1 = w') := leafS_any w1 hg hA n hc hB 0 he B11.out
    clear hi hfd hf1
    cases fd with
    | true =>
      obtain ⟨u, hx⟩ := HFD.out.1 rfl
      have hin : i < n := by rw [HN.out.1]; exact (List.getElem?_eq_some_iff.1 hx).1
      obtain ⟨ha, rfl⟩ := B21.out.addr (by omega)
      have d1 : w1.cell? ⟨ha, i * 2 + 1, none⟩ = some (.int .i64 u) := by have := B21.out; exact (RowW.cellS this hx).2
      have HX := Lib.hid hx
      have hwi : IntKind.i64.wrap ((i : Int) + 1) = (i : Int) + 1 := by have := HN.out.2; exact IntWalk.i64_in _ (by omega)
      have HDEL : Hid (Calls Try.prog 56 #[.slice (some ⟨ha, 0, none⟩) n hc, .int .i64 (i : Int), .int .i64 ((i : Int) + 1)] w1 fun en w' => en = .returned (.slice (some ⟨ha, 0, none⟩) (n - 1) hc) ∧ RowW w' 0 72 2 (.slice (some ⟨ha, 0, none⟩) (n - 1) hc) (n - 1) (itsS (hxs.take i ++ hxs.drop (i + 1))) ∧ Fr (fun j => j = ha) w1 w') := by
        have h := delIS_any w1 0 ha n hc i (itsS hxs) B21.out hin (by have := HN.out.2; omega)
        rw [← itsS_take, ← itsS_drop, ← itsS_append] at h
        exact h
      have HNE : Hid (hg ≠ ha) := fun e => B21.out.ne_ B11.out (by decide) ⟨_, rfl, e.symm⟩
      clear hx HFD
      go_wp2_with fail
      refine HLF.out.mono ?_
      rintro e w2 ⟨rfl, rfl⟩
      clear HLF
      go_wp2_with fail
      refine HDEL.out.mono ?_
      clear HDEL
      rintro e w2 ⟨rfl, hr2, hf2⟩
      have hset := Hd.setI tkAS HL1.out (A' := some ⟨ha, 0, none⟩) (c' := hc) (n' := n - 1) (xs' := hxs.take i ++ hxs.drop (i + 1)) (by rw [List.length_append, List.length_take, List.length_drop]; have := HN.out.1; omega) hr2 (hf2.mono fun b _ e => ⟨_, rfl, e.symm⟩) (fun b hb => .inl hb)
      have HS := Lib.hid hset
      have HB2 := Lib.hid (B11.out.fr hf2 HNE.out)
      have c2 := HB2.out.cell 0
      have f2 := HB2.out.free 0
      clear hset hr2 hf2
      go_wp2_with fail
      go_ret2
      have hn := HN.out.1
      refine ⟨u, true, .leaf ⟨hg, some ⟨ha, 0, none⟩, hc, hB, he, hxs.take i ++ hxs.drop (i + 1)⟩, rfl, .inl ⟨rfl, List.mem_of_getElem? HX.out⟩, ⟨HS.out.1, trivial, trivial⟩, (HI.out.del linS HU.out HX.out).symm, rfl, ?_, ?_, (fun h => by cases h), ⟨?_, fun b hb => .inl hb⟩⟩
      · show (hxs.take i ++ hxs.drop (i + 1)).length ≤ hxs.length; rw [List.length_append, List.length_take, List.length_drop]; omega
      · show hxs.length ≤ (hxs.take i ++ hxs.drop (i + 1)).length + 1; rw [List.length_append, List.length_take, List.length_drop]; omega
      · exact (HF1.out.mono fun _ _ h => h.elim).step HS.out.2.1 fun b _ h => h
    | false =>
      have HNF : Hid (¬ ∃ v, hxs[i]? = some (key, v)) := fun h => by have := HFD.out.2 h; cases this
      clear HFD
      go_wp2_with fail
      refine HLF.out.mono ?_
      rintro e w2 ⟨rfl, rfl⟩
      clear HLF
      go_wp2_with fail
      go_ret2
      have hno := HI.out.no linS HU.out HNF.out
      exact ⟨(0 : Int), false, .leaf ⟨hg, hA, hc, hB, he, hxs⟩, rfl, .inr ⟨rfl, rfl, hno⟩, HO.out.fr HF1.out fun _ _ e => e, (delL_no linS hno).symm, rfl, Nat.le_refl _, Nat.le_succ _, (fun _ => rfl), ⟨HF1.out.mono fun _ _ h => h.elim, fun b hb => .inl hb⟩⟩
  | succ d ih =>
    intro w t o hu h16 h1
    obtain ⟨⟨hg, hA, hc, hB, he, hxs⟩, ks⟩ := t
    have h16' : hxs.length ≤ 16 := h16
    have h1' : 1 ≤ hxs.length := h1.resolve_left (by omega)
    have hu' : UpI Op.bytesLess (Tr.flat (d := d + 1) (Tr.node ⟨hg, hA, hc, hB, he, hxs⟩ ks)) := hu
    have hu0 : UpI Op.bytesLess hxs := hu'.sub (sub_weave _ _)
    have hks : ks.length = hxs.length + 1 := o.shape.1
    have hl : (Hd.mk hg hA hc hB he hxs).lies tkS w (ks.map Tr.g) := o.lies.1
    obtain ⟨b1, b2, b3⟩ := hl
    unfold tkS at b1 b2 b3
    dsimp only at b1 b2 b3
    have HFD := Lib.hid (findS_any w hA hc hxs key b2.rd hu0 (by omega))
    obtain ⟨n, hnn⟩ : ∃ n, n = hxs.length := ⟨_, rfl⟩
    obtain ⟨np, hnp⟩ : ∃ np, np = (ks.map Tr.g).length := ⟨_, rfl⟩
    rw [← hnn] at b1 b2 HFD
    rw [← hnp] at b1 b3
    have hnp1 : np = n + 1 := by rw [hnp, List.length_map, hks, hnn]
    obtain ⟨pb, rfl⟩ := b3.addr (by omega)
    obtain ⟨ha, rfl⟩ := b2.addr (by omega)
    have c0 : w.cell? ⟨hg, 0, none⟩ = some (.slice (some ⟨ha, 0, none⟩) n hc) := b1.cell 0
    have B1 := Lib.hid b1
    have B2 := Lib.hid b2
    have B3 := Lib.hid b3
    have HO := Lib.hid o
    have HU := Lib.hid hu0
    have HUF := Lib.hid hu'
    have HN : Hid (n = hxs.length ∧ n ≤ 16 ∧ 1 ≤ n ∧ ks.length = n + 1) := ⟨hnn, by omega, by omega, by omega⟩
    have HIH := Lib.hid (fun (w : World) (t : Tr ItS d) (h1 : t.ok tkS w) (h2 : UpI Op.bytesLess t.flat) (h3 : t.n ≤ 16) (h4 : d = 0 ∨ 1 ≤ t.n) => ih w t h1 h2 h3 h4)
    clear b1 b2 b3 o hu hu' hu0 h16 h16' h1 h1' hnn hnp hks ih
    show Calls _ _ #[.pointer (some ⟨hg, 0, none⟩), _] _ _
    go_enter Try.func37, Try.ntmps37
    go_wp2_with fail
    refine HFD.out.mono ?_
    clear HFD
    rintro e w1 ⟨i, fd, rfl, hi, hfd, hf1⟩
    have HI := Lib.hid hi
    have HFD := Lib.hid hfd
    have HF1 := Lib.hid hf1
    have B11 := Lib.hid (B1.out.fr hf1 fun h => h)
    have B21 := Lib.hid (B2.out.fr hf1 fun _ _ h => h)
    have B31 := Lib.hid (B3.out.fr hf1 fun _ _ h => h)
    have hle : i ≤ n := by rw [HN.out.1]; exact hi.le
    obtain ⟨k, hk⟩ : ∃ k, ks[i]? = some k := ⟨_, List.getElem?_eq_getElem (by have := HN.out; omega)⟩
    obtain ⟨a, b, hab, hal⟩ : ∃ a b, ks = a ++ [k] ++ b ∧ a.length = i := ⟨ks.take i, ks.drop (i + 1), by rw [List.append_assoc]; exact list_mid hk, by rw [List.length_take]; have := HN.out; omega⟩
    have pk : w1.cell? ⟨pb, i, none⟩ = some (.pointer (some ⟨k.g, 0, none⟩)) := B31.out.cellP (by rw [List.getElem?_map, hk]; rfl)
    subst hab
    have hkm : k ∈ a ++ [k] ++ b := by simp
    have hkid := HO.out.kid hkm
    have HO1 : Hid ((Tr.node ⟨hg, some ⟨ha, 0, none⟩, hc, some ⟨pb, 0, none⟩, he, hxs⟩ (a ++ [k] ++ b)).ok tkS w1) := HO.out.fr hf1 fun _ _ h => h
    have HKID : Hid (k.ok tkS w1 ∧ 8 ≤ k.n ∧ k.n ≤ 16) := ⟨hkid.1.fr hf1 fun _ _ h => h, hkid.2⟩
    have HUK : Hid (UpI Op.bytesLess k.flat) := HUF.out.sub (sub_kid ((a ++ [k] ++ b).map Tr.flat) hxs (List.mem_map_of_mem hkm) (by rw [List.length_map]; have := HN.out; omega))
    have HLEN : Hid ((a ++ [k] ++ b).length = hxs.length + 1) := HO.out.shape.1
    have HAL := Lib.hid hal
    have c0 : w1.cell? ⟨hg, 0, none⟩ = some (.slice (some ⟨ha, 0, none⟩) n hc) := B11.out.cell 0
    have c1 : w1.cell? ⟨hg, 1, none⟩ = some (.slice (some ⟨pb, 0, none⟩) np he) := B11.out.cell 1
    have HLF : Hid (Calls Try.prog 38 #[.pointer (some ⟨hg, 0, none⟩)] w1 fun en w' => en = .returned (.bool false) ∧ w1 = w') := by
      have h := leafS_any w1 hg _ n hc _ np he B11.out
      rw [decide_eq_false (show ¬ np = 0 by omega)] at h
      exact h
    obtain ⟨kg, hkg⟩ : ∃ g, g = k.g := ⟨_, rfl⟩
    rw [← hkg] at pk
    have HKG := Lib.hid hkg
    have hinp : i < np := by omega
    clear hi hfd hf1 hk hal hkm hkid hkg hle
    cases fd with
    | true =>
      obtain ⟨u, hx⟩ := HFD.out.1 rfl
      have hin : i < n := by rw [HN.out.1]; exact (List.getElem?_eq_some_iff.1 hx).1
      have d0 : w1.cell? ⟨ha, i * 2, none⟩ = some (.string (bstr key)) := by have := B21.out; exact (RowW.cellS this hx).1
      have d1 : w1.cell? ⟨ha, i * 2 + 1, none⟩ = some (.int .i64 u) := by have := B21.out; exact (RowW.cellS this hx).2
      have c0d : w1.drew.cell? ⟨hg, 0, none⟩ = some (.slice (some ⟨ha, 0, none⟩) n hc) := c0
      have c1d : w1.drew.cell? ⟨hg, 1, none⟩ = some (.slice (some ⟨pb, 0, none⟩) np he) := c1
      have pkd : w1.drew.cell? ⟨pb, i, none⟩ = some (.pointer (some ⟨kg, 0, none⟩)) := pk
      have HX := Lib.hid hx
      have HTL : Hid (∀ W, Fr NoBlk w1 W → Calls Try.prog 57 #[.pointer (some ⟨kg, 0, none⟩)] W fun e w' => ∃ (xk : Bs) (xv : Int), e = .returned (.agg #[.string (bstr xk), .int .i64 xv]) ∧ Hid (∃ (k' : Tr ItS d) (P : List ItS), k.flat = P ++ [(xk, xv)] ∧ k'.flat = P ∧ Tr.lack tkS w' ⟨hg, some ⟨ha, 0, none⟩, hc, some ⟨pb, 0, none⟩, he, hxs⟩ a k' b ∧ Stp w1 w' (Tr.node ⟨hg, some ⟨ha, 0, none⟩, hc, some ⟨pb, 0, none⟩, he, hxs⟩ (a ++ [k] ++ b)).own (Tr.node ⟨hg, some ⟨ha, 0, none⟩, hc, some ⟨pb, 0, none⟩, he, hxs⟩ (a ++ [k'] ++ b)).own)) := fun W hW => by
        rw [HKG.out]
        refine (takeLastS_any W k (HKID.out.1.fr hW fun _ _ h => h) (by have := HKID.out.2; omega) HKID.out.2.2).mono ?_
        rintro e w' ⟨⟨xk, xv⟩, k', P, he', hkf, hkf', hok, hkg', hn1, hn2, hst⟩
        have h8 := HKID.out.2
        obtain ⟨l1, l2⟩ := Tr.lack_of (HO1.out.fr hW fun _ _ h => h) hok hkg' (by omega) (by omega) hst
        exact ⟨xk, xv, he', k', P, hkf, hkf', l1, ⟨(hW.mono fun _ _ h => h.elim).step l2.fr fun b _ h => h, fun b hb => by
          rcases l2.new b hb with h | h
          · exact .inl h
          · exact .inr (Nat.le_trans hW.size h)⟩⟩
      clear hx HFD HIH
      go_wp2_with fail
      refine HLF.out.mono ?_
      rintro e w2 ⟨rfl, rfl⟩
      clear HLF
      go_upto_region 9 with fail
      go_cut [50] (fun s wx => s = .pointer (some ⟨hg, 0, none⟩) ∧ Hid (TkRelS w1 wx ⟨hg, some ⟨ha, 0, none⟩, hc, some ⟨pb, 0, none⟩, he, hxs⟩ a k b))
      case first =>
        go_region_with (refine (HTL.out _ ?_).mono ?_; (first | exact (Fr.refl _ _).drew | exact Fr.refl _ _); rintro e w2 ⟨xk, xv, rfl, HP⟩; have HC : Hid (RowW w2 0 72 2 (.slice (some ⟨ha, 0, none⟩) n hc) n (itsS hxs)) := (by obtain ⟨k', P, _, _, hl, _⟩ := HP.out; have h := hl.lies.1.2.1; show RowW _ _ _ _ _ _ _; rw [HN.out.1]; exact h); have q0 : w2.cell? ⟨hg, 0, none⟩ = some (.slice (some ⟨ha, 0, none⟩) n hc) := (by obtain ⟨k', P, _, _, hl, _⟩ := HP.out; exact lack_cellS hl HN.out.1); have HX2 := Lib.hid (HX.out); have y0 : w2.cell? ⟨ha, i * 2, none⟩ = some (.string (bstr key)) := (HC.out.cellS HX2.out).1; have y1 : w2.cell? ⟨ha, i * 2 + 1, none⟩ = some (.int .i64 u) := (HC.out.cellS HX2.out).2; have s0 := HC.out.frz (i * 2); have s1 := HC.out.frz (i * 2 + 1))
        all_goals
          go_wp2_with fail
          go_meet
          obtain ⟨k', P, hkf, hkf', hl, hst⟩ := HP.out
          have hsx := Hd.setxS (X := ⟨hg, some ⟨ha, 0, none⟩, hc, some ⟨pb, 0, none⟩, he, hxs⟩) (z := (xk, xv)) hl.lies.1 rfl (by rw [← HAL.out] at HX; exact HX.out)
          rw [HAL.out] at hsx
          refine ⟨rfl, (xk, xv), k', P, hkf, hkf', ?_, ?_⟩
          · rw [HAL.out]
            exact hl.setx hsx.2 (fun x e => .inr (.inl ⟨_, rfl, e.symm⟩)) hsx.1 (by rw [List.length_set])
          · refine Stp.trans hst ⟨hsx.2.mono fun b _ e => .inl (.inr (.inl ⟨_, rfl, e.symm⟩)), fun b hb => .inl hb⟩
      case rest =>
        obtain ⟨w3, rfl⟩ : ∃ w3, w3 = wc := ⟨_, rfl⟩
        obtain ⟨rfl, HCR⟩ := hcut
        obtain ⟨x, k', P, hkf, hkf', hl, hst⟩ := HCR.out
        have HFI : Hid (Calls Try.prog 58 #[.pointer (some ⟨hg, 0, none⟩), .int .i64 (i : Int)] w3 (FillSPost w3 ⟨hg, some ⟨ha, 0, none⟩, hc, some ⟨pb, 0, none⟩, he, hxs.set a.length x⟩ (a ++ [k'] ++ b) (8 ≤ k'.n))) := by
          have h := fillS_any w3 ⟨hg, some ⟨ha, 0, none⟩, hc, some ⟨pb, 0, none⟩, he, hxs.set a.length x⟩ a k' b hl (by show (hxs.set _ _).length ≤ 16; rw [List.length_set]; have := HN.out; omega) (by show 1 ≤ (hxs.set _ _).length; rw [List.length_set]; have := HN.out; omega)
          rw [HAL.out] at h ⊢
          exact h
        have HST := Lib.hid hst
        have HFL := Lib.hid (take_flat linS (h := ⟨hg, some ⟨ha, 0, none⟩, hc, some ⟨pb, 0, none⟩, he, hxs⟩) HLEN.out HUF.out (by rw [HAL.out]; exact HX.out) hkf hkf')
        have HMEM : Hid ((key, u) ∈ (Tr.node ⟨hg, some ⟨ha, 0, none⟩, hc, some ⟨pb, 0, none⟩, he, hxs⟩ (a ++ [k] ++ b)).flat) := (sub_weave _ _).subset (List.mem_of_getElem? HX.out)
        clear hkf hkf' hl hst HCR HTL d0 d1 c0d c1d pkd c0 c1 pk
        go_wp2_with fail
        refine HFI.out.mono ?_
        clear HFI
        rintro e w4 ⟨⟨vv, rfl⟩, h', ks', hok4, hfl4, hg4, hn4, hn4', hst4, _⟩
        have HP4 := Lib.hid (And.intro hok4 (And.intro hfl4 (And.intro hg4 (And.intro hn4 (And.intro hn4' hst4)))))
        clear hok4 hfl4 hg4 hn4 hn4' hst4
        go_wp2_with fail
        go_ret2
        obtain ⟨hok4, hfl4, hg4, hn4, hn4', hst4⟩ := HP4.out
        have hls : (hxs.set a.length x).length = hxs.length := List.length_set
        replace hn4 : h'.xs.length ≤ (hxs.set a.length x).length := hn4
        replace hn4' : (hxs.set a.length x).length ≤ h'.xs.length + 1 := hn4'
        rw [hls] at hn4 hn4'
        refine ⟨u, true, .node h' ks', rfl, .inl ⟨rfl, HMEM.out⟩, hok4, by rw [hfl4]; exact HFL.out, hg4, hn4, hn4', (fun h => by cases h), ?_⟩
        exact (Stp.trans (⟨HF1.out.mono fun _ _ h => h.elim, fun b hb => .inl hb⟩ : Stp w w1 _ _) HST.out).trans hst4
    | false =>
      have HNF : Hid (¬ ∃ v, hxs[i]? = some (key, v)) := fun h => by have := HFD.out.2 h; cases this
      have HSD : Hid ((∀ p ∈ preW (a.map Tr.flat) (hxs.take a.length), Op.bytesLess p.1 key = true) ∧ ∀ p ∈ postW (hxs.drop a.length) (b.map Tr.flat), Op.bytesLess key p.1 = true) := node_sides linS HLEN.out HUF.out (by rw [HAL.out]; exact HI.out) (by rw [HAL.out]; exact HNF.out)
      have HFM : Hid ((Tr.node ⟨hg, some ⟨ha, 0, none⟩, hc, some ⟨pb, 0, none⟩, he, hxs⟩ (a ++ [k] ++ b)).flat = preW (a.map Tr.flat) (hxs.take a.length) ++ k.flat ++ postW (hxs.drop a.length) (b.map Tr.flat)) := Tr.flat_mid HLEN.out
      have HTK : Hid (Calls Try.prog 37 #[.pointer (some ⟨kg, 0, none⟩), .string (bstr key)] w1 (TakeSPost w1 k key)) := by
        rw [HKG.out]
        exact HIH.out w1 k HKID.out.1 HUK.out HKID.out.2.2 (.inr (by have := HKID.out.2; omega))
      clear HFD HIH
      go_wp2_with fail
      refine HLF.out.mono ?_
      rintro e w2 ⟨rfl, rfl⟩
      clear HLF
      go_wp2_with fail
      refine HTK.out.mono ?_
      clear HTK c0 c1 pk
      rintro e w3 ⟨old, had, k', rfl, hlk, hok, hfl, hkg', hn1, hn2, hnh, hst⟩
      have h8 := HKID.out.2
      have HNH : Hid (had = false → 8 ≤ k'.n) := fun h => by have := hnh h; omega
      obtain ⟨l1, l2⟩ := Tr.lack_of HO1.out hok hkg' (by omega) (by omega) hst
      have HFI : Hid (Calls Try.prog 58 #[.pointer (some ⟨hg, 0, none⟩), .int .i64 (i : Int)] w3 (FillSPost w3 ⟨hg, some ⟨ha, 0, none⟩, hc, some ⟨pb, 0, none⟩, he, hxs⟩ (a ++ [k'] ++ b) (8 ≤ k'.n))) := by
        have h := fillS_any w3 ⟨hg, some ⟨ha, 0, none⟩, hc, some ⟨pb, 0, none⟩, he, hxs⟩ a k' b l1 (by show hxs.length ≤ 16; have := HN.out; omega) (by show 1 ≤ hxs.length; have := HN.out; omega)
        rw [HAL.out] at h
        exact h
      have HST := Lib.hid l2
      have HLK := Lib.hid (And.intro hlk hfl)
      have HLEN' : Hid ((a ++ [k'] ++ b).length = hxs.length + 1) := l1.len
      clear hlk hok hfl hkg' hn1 hn2 hnh hst h8 l1 l2
      go_wp2_with fail
      refine HFI.out.mono ?_
      clear HFI
      rintro e w4 ⟨⟨vv, rfl⟩, h', ks', hok4, hfl4, hg4, hn4, hn4', hst4, hbig⟩
      have HBG := Lib.hid hbig
      clear hbig
      have HP4 := Lib.hid (And.intro hok4 (And.intro hfl4 (And.intro hg4 (And.intro hn4 (And.intro hn4' hst4)))))
      clear hok4 hfl4 hg4 hn4 hn4' hst4
      go_wp2_with fail
      go_ret2
      obtain ⟨hok4, hfl4, hg4, hn4, hn4', hst4⟩ := HP4.out
      have e2 := Tr.flat_mid (h := ⟨hg, some ⟨ha, 0, none⟩, hc, some ⟨pb, 0, none⟩, he, hxs⟩) HLEN'.out
      dsimp only at e2
      refine ⟨old, had, .node h' ks', rfl, ?_, hok4, ?_, hg4, hn4, hn4', (fun hh => HBG.out (HNH.out hh)), ?_⟩
      · show Lk _ _ (Tr.node _ _).flat _ _
        rw [HFM.out]
        exact HLK.out.1.mid linS HSD.out.1 HSD.out.2
      · show (Tr.node h' ks').flat = delL _ _ (Tr.node _ _).flat
        rw [hfl4, e2, HLK.out.2, HFM.out]
        exact (delL_mid linS HSD.out.1 HSD.out.2).symm
      · exact (Stp.trans (⟨HF1.out.mono fun _ _ h => h.elim, fun b hb => .inl hb⟩ : Stp w w1 _ _) HST.out).trans hst4
end Go.Proofs.Ytcpgonioobgpoaa
