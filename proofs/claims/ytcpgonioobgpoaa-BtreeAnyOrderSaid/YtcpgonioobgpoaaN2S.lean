/- put: a key gets a value in the tree at or below a node. Conditions: as the tree's shape has them. -/
import Derived.Test.YtcpgonioobgpoaaN1S
import Derived.Test.YtcpgonioobgpoaaP2

namespace Go.Proofs.Ytcpgonioobgpoaa
open Go.RowKit
theorem RowW.put {w : World} {base : Nat} {e : TypeId} {size n c g : Nat} {xs : List Value} (h : RowW w base e size (.slice (some ⟨g, 0, none⟩) n c) n xs) (k : Nat) (v : Value) (_hk : k < xs.length) (hv : v.oneCell' = true) : RowW (w.setCell ⟨g, k, none⟩ v) base e size (.slice (some ⟨g, 0, none⟩) n c) n (xs.set k v) := by
  refine ⟨by rw [List.length_set]; exact h.1, fun u hu => ?_, ?_⟩
  · rcases List.mem_or_eq_of_mem_set hu with h1 | rfl
    · exact h.2.1 u h1
    · exact hv
  rcases h.2.2 with ⟨hv, _⟩ | ⟨g', cap, cur, hv', hb, hg, hc, hm, hs, ht⟩
  · cases hv
  injection hv' with e1 e2 e3
  injection e1 with e1
  injection e1 with e1
  subst e1 e3
  refine .inr ⟨g, c, _, rfl, hb, hg.put k v, hc, hm, by rw [Array.size_setIfInBounds]; exact hs, ?_⟩
  rw [Array.toList_setIfInBounds, List.take_set, ht]
theorem RowW.frz {w : World} {base : Nat} {e : TypeId} {size n c g : Nat} {xs : List Value} (h : RowW w base e size (.slice (some ⟨g, 0, none⟩) n c) n xs) (k : Nat) : w.frozen? ⟨g, k, none⟩ = false := by
  obtain ⟨cur, hb⟩ := h.blk
  exact hb.free k
theorem itsS_set (xs : List ItS) (i : Nat) (x y : ItS) (h : xs[i]? = some x) : itsS (xs.set i y) = ((itsS xs).set (i * 2) (.string (bstr y.1))).set (i * 2 + 1) (.int .i64 y.2) := by
  induction xs generalizing i with
  | nil => cases h
  | cons z t ih =>
    cases i with
    | zero => rfl
    | succ i =>
      show itcS z ++ itsS (t.set i y) = ((itcS z ++ itsS t).set ((i + 1) * 2) _).set ((i + 1) * 2 + 1) _
      rw [ih i h, show (i + 1) * 2 = i * 2 + 2 by omega]
      rfl
theorem itsS_setv (xs : List ItS) (i : Nat) (k : Bs) (u v : Int) (h : xs[i]? = some (k, u)) : itsS (xs.set i (k, v)) = (itsS xs).set (i * 2 + 1) (.int .i64 v) := by
  rw [itsS_set xs i (k, u) (k, v) h]
  congr 1
  have h1 := itsS_get xs i (k, u) h 0 (by omega)
  obtain ⟨hl, he⟩ := List.getElem?_eq_some_iff.1 h1
  have he2 : .string (bstr k) = (itsS xs)[i * 2 + 0] := he.symm
  show (itsS xs).set (i * 2) (.string (bstr k)) = itsS xs
  rw [he2]
  exact List.set_getElem_self hl
def PutSPost (w : World) {d : Nat} (t : Tr ItS d) (key : Bs) (v : Int) (e : Ending) (w' : World) : Prop :=
  ∃ (old : Int) (had : Bool) (t' : Tr ItS d), e = .returned (.tuple #[.int .i64 old, .bool had]) ∧ Lk (0 : Int) key t.flat had old ∧ t'.ok tkS w' ∧ t'.flat = putL Op.bytesLess key v t.flat ∧ t'.g = t.g ∧ t.n ≤ t'.n ∧ t'.n ≤ t.n + 1 ∧ (had = true → t'.n = t.n) ∧ Stp w w' t.own t'.own
/-- a value in the place of another one. -/
theorem putS_found {w w1 : World} {d : Nat} {t : Tr ItS d} (o : t.ok tkS w) (hu : UpI Op.bytesLess t.flat) {key : Bs} {u v : Int} {i : Nat} (hx : t.hd.xs[i]? = some (key, u)) (hf : Fr NoBlk w w1) {a : Nat} (ha : t.hd.A = some ⟨a, 0, none⟩) :
    PutSPost w t key v (.returned (.tuple #[.int .i64 u, .bool true])) (w1.setCell ⟨a, i * 2 + 1, none⟩ (.int .i64 v)) := by
  obtain ⟨P, Q, h1, h2⟩ := Tr.flat_set o.shape hx
  have hl := Tr.lies_hd o.lies
  have hf1 : Fr (fun b => t.hd.own b) w (w1.setCell ⟨a, i * 2 + 1, none⟩ (.int .i64 v)) := (hf.mono fun _ _ h => h.elim).setCell (p := ⟨a, i * 2 + 1, none⟩) (fun _ => .inr (.inl ⟨_, ha, rfl⟩)) _
  have hil := (List.getElem?_eq_some_iff.1 hx).1
  have hf2 : Fr (fun b => b = a) w (w1.setCell ⟨a, i * 2 + 1, none⟩ (.int .i64 v)) := (hf.mono (D := fun b => b = a) fun _ _ h => h.elim).setCell (p := ⟨a, i * 2 + 1, none⟩) (fun _ => rfl) _
  have hr := hl.2.1
  rw [ha] at hr
  obtain ⟨cur, hbk⟩ := hr.blk
  have hok : (t.setx (t.hd.xs.set i (key, v))).ok tkS (w1.setCell ⟨a, i * 2 + 1, none⟩ (.int .i64 v)) := by
    refine Tr.setx_ok hf1 o (fun _ h => h) (Hd.lies_mk (n := t.hd.xs.length) (m := t.ptrs.length) (ys := itsS (t.hd.xs.set i (key, v))) (zs := t.ptrs.map ptr) (hl.1.fr hf2 fun e => hl.1.apart hbk (by decide) e) ?_ (hl.2.2.fr hf2 fun k hk e => ?_) (by rw [List.length_set]) rfl rfl rfl) (by rw [List.length_set]; rfl)
    · rw [ha, itsS_setv _ i key u v hx]
      exact (hr.fr hf fun _ _ h => h).put (i * 2 + 1) _ (by show _ < (itsS t.hd.xs).length; rw [itsS_len]; omega) rfl
    · obtain ⟨cur2, h3⟩ := hl.2.2.blk' hk
      exact h3.apart hbk (by decide) e
  rw [h1] at hu
  have hs := up_mid linS hu
  refine ⟨u, true, t.setx (t.hd.xs.set i (key, v)), rfl, .inl ⟨rfl, by rw [h1]; simp⟩, hok, ?_, by show (t.setx _).hd.g = _; rw [Tr.setx_hd]; rfl, ?_, ?_, fun _ => by show (t.setx _).hd.xs.length = _; rw [Tr.setx_hd]; show (t.hd.xs.set i (key, v)).length = _; rw [List.length_set]; rfl, ⟨hf1.mono fun b _ hb => t.own_hd hb, fun b hb => .inl ((t.setx_own _ b).1 hb)⟩⟩
  · rw [h2, h1, putL_mid linS hs.1 hs.2, putL_at linS]
  · show _ ≤ (t.setx _).hd.xs.length; rw [Tr.setx_hd]; show _ ≤ (t.hd.xs.set i (key, v)).length; rw [List.length_set]; exact Nat.le_refl _
  · show (t.setx _).hd.xs.length ≤ _; rw [Tr.setx_hd]; show (t.hd.xs.set i (key, v)).length ≤ _; rw [List.length_set]; exact Nat.le_succ _
set_option maxRecDepth 100000 in
set_option maxHeartbeats 4000000 in
theorem putS_any (key : Bs) (v : Int) : ∀ {d : Nat} (w : World) (t : Tr ItS d), t.ok tkS w → UpI Op.bytesLess t.flat → t.n ≤ 16 → Calls Try.prog 40 #[.pointer (some ⟨t.g, 0, none⟩), .string (bstr key), .int .i64 v] w (PutSPost w t key v) := by
  intro d
  induction d with
  | zero =>
    intro w t o hu hn
    have HO := Lib.hid o
    have HU := Lib.hid hu
    have hl := Tr.lies_hd o.lies
    have hux : UpI Op.bytesLess t.hd.xs := hu.sub (Tr.sub_hd t)
    have hnx : t.hd.xs.length ≤ 16 := hn
    have HN := Lib.hid hn
    have hgg : t.g = t.hd.g := rfl
    rw [hgg]
    generalize hh : t.hd = h at hl hux hnx ⊢
    have HE := Lib.hid hh
    clear hh hgg o hu hn
    obtain ⟨hg, hA, hc, hB, he, hxs⟩ := h
    obtain ⟨b1, b2, b3⟩ := hl
    unfold tkS at b1 b2 b3
    dsimp only at b1 b2 b3 hux hnx
    have HFD := Lib.hid (findS_any w hA hc hxs key b2.rd hux (by omega))
    have HNX := Lib.hid hnx
    obtain ⟨n, hnn⟩ : ∃ n, n = hxs.length := ⟨_, rfl⟩
    have HNN := Lib.hid hnn
    rw [← hnn] at b1 b2 HFD
    obtain ⟨np, hnp⟩ : ∃ np, np = t.ptrs.length := ⟨_, rfl⟩
    have HNP := Lib.hid hnp
    rw [← hnp] at b1 b3
    have B1 := Lib.hid b1
    have B2 := Lib.hid b2
    have B3 := Lib.hid b3
    have HUX := Lib.hid hux
    have c0 : w.cell? ⟨hg, 0, none⟩ = some (.slice hA n hc) := b1.cell 0
    clear b1 b2 b3 hnn hnp hux hnx
    go_enter Try.func40, Try.ntmps40
    go_wp2_with fail
    refine HFD.out.mono ?_
    clear HFD
    rintro e w1 ⟨i, fd, rfl, hi, hfd, hf1⟩
    have HI := Lib.hid hi
    have HFD := Lib.hid hfd
    have HF1 := Lib.hid hf1
    have B11 := Lib.hid (B1.out.fr hf1 fun h => h)
    have B21 := Lib.hid (B2.out.fr hf1 fun _ _ h => h)
    have B31 := Lib.hid (B3.out.fr hf1 fun _ _ h => h)
    have c0 : w1.cell? ⟨hg, 0, none⟩ = some (.slice hA n hc) := B11.out.cell 0
    clear hi hfd hf1
    cases fd with
    | true =>
      obtain ⟨u, hx⟩ := HFD.out.1 rfl
      have hin : i < n := by rw [HNN.out]; exact (List.getElem?_eq_some_iff.1 hx).1
      obtain ⟨a, rfl⟩ := B21.out.addr (by omega)
      have HX := Lib.hid hx
      have d1 : w1.cell? ⟨a, i * 2 + 1, none⟩ = some (.int .i64 u) := by have := B21.out; exact (RowW.cellS this hx).2
      have f1 := B21.out.frz (i * 2 + 1)
      clear hx
      go_wp2_with fail
      go_ret2
      exact putS_found HO.out HU.out (by rw [HE.out]; exact HX.out) HF1.out (by rw [HE.out])
    | false =>
      have HNF : Hid (¬ ∃ v, hxs[i]? = some (key, v)) := fun h => by have := HFD.out.2 h; cases this
      have HLF := Lib.hid (leafS_any w1 hg hA n hc hB np he B11.out)
      clear HFD
      obtain rfl : np = 0 := HNP.out
      have HLF0 : Hid (Calls Try.prog 38 #[.pointer (some ⟨hg, 0, none⟩)] w1 fun en w' => en = .returned (.bool true) ∧ w1 = w') := HLF.out
      clear HLF
      have HIN := Lib.hid ((insIS_any (w1.alloc (.cells #[.string (bstr key), .int .i64 v] 72)) 0 hA n hc i (itsS hxs) (B21.out.fr ((Fr.refl NoBlk _).alloc _) fun _ _ h => h) (Nat.zero_le _) (by rw [HNN.out]; exact HI.out.le) (by rw [HNN.out]; have := HNX.out; omega) w1.heap.size #[.string (bstr key), .int .i64 v] (Bk.new _ _ _) rfl (by intro u hu; simp only [List.mem_cons, List.not_mem_nil, or_false] at hu; rcases hu with rfl | rfl <;> rfl) (fun h => by have := (B21.out.lt (ablk_own h)).2; omega)).mono fun e w' h => h.from_ ((Fr.refl NoBlk w1).alloc _))
      go_wp2_with fail
      refine HLF0.out.mono ?_
      rintro e w2 ⟨rfl, rfl⟩
      go_wp2_with fail
      refine HIN.out.mono ?_
      clear HIN
      rintro e w3 ⟨A3, c3, rfl, hr3, hf3, hb3⟩
      have HN3 := Lib.hid (B11.out.fr hf3 fun h => B21.out.ne_ B11.out (by decide) h)
      have HR3 := Lib.hid hr3
      have HF3 := Lib.hid hf3
      have HB3 := Lib.hid hb3
      clear hr3 hf3 hb3
      have c1 := HN3.out.cell 0
      have f1 := HN3.out.free 0
      go_wp2_with fail
      go_ret2
      obtain ⟨W4, hW4⟩ : ∃ W4, W4 = w3.setCell ⟨hg, 0, none⟩ (.slice A3 (n + 1) c3) := ⟨_, rfl⟩
      rw [← hW4]
      have hf34 : Fr (fun b => b = hg) w3 W4 := by rw [hW4]; exact (Fr.refl (fun b => b = hg) w3).setCell (p := ⟨hg, 0, none⟩) (fun _ => rfl) _
      have hB4 : Bk W4 hg 67 #[.slice A3 (n + 1) c3, .slice hB 0 he] := by rw [hW4]; exact HN3.out.put 0 _
      have hzl := HF1.out.size
      have hzl2 := HF3.out.size
      have hgl := B1.out.lt
      have hA3 : ¬ ablk A3 hg := fun e => by
        rcases HB3.out _ e with h | h
        · exact B21.out.ne_ B11.out (by decide) h
        · omega
      have hR4 : RowW W4 0 72 2 (.slice A3 (n + 1) c3) (n + 1) (itsS (hxs.take i ++ (key, v) :: hxs.drop i)) := by
        have h2 := HR3.out.fr hf34 fun k hk e => hA3 (e ▸ own_ablk hk)
        rw [itsS_append, itsS_take, show itsS ((key, v) :: hxs.drop i) = [.string (bstr key), .int .i64 v] ++ itsS (hxs.drop i) from rfl, itsS_drop, ← List.append_assoc]
        exact h2
      have hP4 : RowW W4 0 63 1 (.slice hB 0 he) 0 [] := (B31.out.fr HF3.out fun k hk e => by
          obtain ⟨cur, h1⟩ := B31.out.blk' hk
          exact B21.out.ne_ h1 (by decide) e).fr hf34 fun k hk e => by
          obtain ⟨cur, h1⟩ := B31.out.blk' hk
          exact h1.apart B11.out (by decide) e
      have hF : Fr (Hd.mk hg hA hc hB he hxs).own w W4 := (((HF1.out.mono fun _ _ h => h.elim).step HF3.out fun b _ h => .inr (.inl h))).step hf34 fun b _ h => .inl h
      have hle := HI.out.le
      have hnl : n + 1 = (hxs.take i ++ (key, v) :: hxs.drop i).length := by rw [HNN.out]; simp only [List.length_append, List.length_cons, List.length_take, List.length_drop]; omega
      have hE : t = ⟨hg, hA, hc, hB, he, hxs⟩ := HE.out
      have hfl : t.flat = hxs := by rw [hE]; rfl
      have hown : ∀ b, (Tr.own t b) ↔ (Hd.mk hg hA hc hB he hxs).own b := fun b => by rw [hE]; exact Iff.rfl
      have htn : t.n = n := by rw [HNN.out, hE]; rfl
      refine ⟨(0 : Int), false, .leaf ⟨hg, A3, c3, hB, he, hxs.take i ++ (key, v) :: hxs.drop i⟩, rfl, .inr ⟨rfl, rfl, by rw [hfl]; exact HI.out.no linS HUX.out HNF.out⟩, ⟨Hd.lies_mk hB4 hR4 hP4 hnl rfl rfl rfl, trivial, trivial⟩, ?_, by rw [hE]; rfl, by rw [htn]; show n ≤ (hxs.take i ++ (key, v) :: hxs.drop i).length; omega, by rw [htn]; show (hxs.take i ++ (key, v) :: hxs.drop i).length ≤ n + 1; omega, (fun h => by cases h), ⟨hF.mono fun b _ h => (hown b).2 h, fun b hb => ?_⟩⟩
      · rw [hfl, HI.out.put linS HUX.out HNF.out]; rfl
      · rcases hb with hb | hb | hb
        · exact .inl ((hown b).2 (.inl hb))
        · rcases HB3.out b hb with h | h
          · exact .inl ((hown b).2 (.inr (.inl h)))
          · exact .inr (by omega)
        · exact .inl ((hown b).2 (.inr (.inr hb)))
  | succ d ih =>
    intro w t o hu hn
    have HO := Lib.hid o
    have HU := Lib.hid hu
    have hl := Tr.lies_hd o.lies
    have hux : UpI Op.bytesLess t.hd.xs := hu.sub (Tr.sub_hd t)
    have hnx : t.hd.xs.length ≤ 16 := hn
    have HN := Lib.hid hn
    have hgg : t.g = t.hd.g := rfl
    rw [hgg]
    generalize hh : t.hd = h at hl hux hnx ⊢
    have HE := Lib.hid hh
    clear hh hgg o hu hn
    obtain ⟨hg, hA, hc, hB, he, hxs⟩ := h
    obtain ⟨b1, b2, b3⟩ := hl
    unfold tkS at b1 b2 b3
    dsimp only at b1 b2 b3 hux hnx
    have HFD := Lib.hid (findS_any w hA hc hxs key b2.rd hux (by omega))
    have HNX := Lib.hid hnx
    obtain ⟨n, hnn⟩ : ∃ n, n = hxs.length := ⟨_, rfl⟩
    have HNN := Lib.hid hnn
    rw [← hnn] at b1 b2 HFD
    obtain ⟨np, hnp⟩ : ∃ np, np = t.ptrs.length := ⟨_, rfl⟩
    have HNP := Lib.hid hnp
    rw [← hnp] at b1 b3
    have B1 := Lib.hid b1
    have B2 := Lib.hid b2
    have B3 := Lib.hid b3
    have HUX := Lib.hid hux
    have c0 : w.cell? ⟨hg, 0, none⟩ = some (.slice hA n hc) := b1.cell 0
    clear b1 b2 b3 hnn hnp hux hnx
    go_enter Try.func40, Try.ntmps40
    go_wp2_with fail
    refine HFD.out.mono ?_
    clear HFD
    rintro e w1 ⟨i, fd, rfl, hi, hfd, hf1⟩
    have HI := Lib.hid hi
    have HFD := Lib.hid hfd
    have HF1 := Lib.hid hf1
    have B11 := Lib.hid (B1.out.fr hf1 fun h => h)
    have B21 := Lib.hid (B2.out.fr hf1 fun _ _ h => h)
    have B31 := Lib.hid (B3.out.fr hf1 fun _ _ h => h)
    have c0 : w1.cell? ⟨hg, 0, none⟩ = some (.slice hA n hc) := B11.out.cell 0
    clear hi hfd hf1
    cases fd with
    | true =>
      obtain ⟨u, hx⟩ := HFD.out.1 rfl
      have hin : i < n := by rw [HNN.out]; exact (List.getElem?_eq_some_iff.1 hx).1
      obtain ⟨a, rfl⟩ := B21.out.addr (by omega)
      have HX := Lib.hid hx
      have d1 : w1.cell? ⟨a, i * 2 + 1, none⟩ = some (.int .i64 u) := by have := B21.out; exact (RowW.cellS this hx).2
      have f1 := B21.out.frz (i * 2 + 1)
      clear hx
      go_wp2_with fail
      go_ret2
      exact putS_found HO.out HU.out (by rw [HE.out]; exact HX.out) HF1.out (by rw [HE.out])
    | false =>
      have HNF : Hid (¬ ∃ v, hxs[i]? = some (key, v)) := fun h => by have := HFD.out.2 h; cases this
      have HLF := Lib.hid (leafS_any w1 hg hA n hc hB np he B11.out)
      clear HFD
      obtain ⟨h0, ks⟩ := t
      obtain rfl : h0 = ⟨hg, hA, hc, hB, he, hxs⟩ := HE.out
      have hsh : ks.length = hxs.length + 1 := HO.out.shape.1
      have hnpk : np = ks.length := HNP.out.trans (List.length_map _)
      have hle := HI.out.le
      obtain ⟨k, hk⟩ : ∃ k, ks[i]? = some k := ⟨_, List.getElem?_eq_getElem (by omega)⟩
      obtain ⟨a, b, hab, hal⟩ : ∃ a b, ks = a ++ [k] ++ b ∧ a.length = i := ⟨ks.take i, ks.drop (i + 1), by rw [List.append_assoc]; exact list_mid hk, by rw [List.length_take]; omega⟩
      subst hab
      have hnp0 : ¬ np = 0 := by omega
      have HLF0 : Hid (Calls Try.prog 38 #[.pointer (some ⟨hg, 0, none⟩)] w1 fun en w' => en = .returned (.bool false) ∧ w1 = w') := by
        have := HLF.out
        rw [decide_eq_false hnp0] at this
        exact this
      clear HLF
      have HOK : Hid ((Tr.node ⟨hg, hA, hc, hB, he, hxs⟩ (a ++ [k] ++ b)).ok tkS w) := HO.out
      have HUF : Hid (UpI Op.bytesLess (Tr.node ⟨hg, hA, hc, hB, he, hxs⟩ (a ++ [k] ++ b)).flat) := HU.out
      have hkm : k ∈ a ++ [k] ++ b := by simp
      have HKID : Hid (k.ok tkS w ∧ 8 ≤ k.n ∧ k.n ≤ 16) := HOK.out.kid hkm
      have HSH := Lib.hid hsh
      have HSD : Hid ((∀ p ∈ preW (a.map Tr.flat) (hxs.take a.length), Op.bytesLess p.1 key = true) ∧ ∀ p ∈ postW (hxs.drop a.length) (b.map Tr.flat), Op.bytesLess key p.1 = true) := node_sides linS hsh HUF.out (by rw [hal]; exact HI.out) (by rw [hal]; exact HNF.out)
      have HFM : Hid ((Tr.node ⟨hg, hA, hc, hB, he, hxs⟩ (a ++ [k] ++ b)).flat = preW (a.map Tr.flat) (hxs.take a.length) ++ k.flat ++ postW (hxs.drop a.length) (b.map Tr.flat)) := Tr.flat_mid hsh
      have HIH : Hid (Calls Try.prog 40 #[.pointer (some ⟨k.g, 0, none⟩), .string (bstr key), .int .i64 v] w1 (PutSPost w1 k key v)) := ih w1 k (HKID.out.1.fr HF1.out fun _ _ h => h) (by
        have h1 := HUF.out
        rw [HFM.out] at h1
        exact h1.sub ((List.sublist_append_right _ _).trans (List.sublist_append_left _ _))) HKID.out.2.2
      have B31K : Hid (RowW w1 0 63 1 (.slice hB np he) np ((a ++ [k] ++ b).map Tr.g |>.map ptr)) := B31.out
      obtain ⟨pb, rfl⟩ := B31K.out.addr (by omega)
      have hki : ((a ++ [k] ++ b).map Tr.g)[i]? = some k.g := by rw [List.getElem?_map, hk]; rfl
      have HKI := Lib.hid hki
      have pc : w1.cell? ⟨pb, i, none⟩ = some (.pointer (some ⟨k.g, 0, none⟩)) := B31K.out.cellP hki
      have c1 : w1.cell? ⟨hg, 1, none⟩ = some (.slice (some ⟨pb, 0, none⟩) np he) := B11.out.cell 1
      have hinp : i < np := by omega
      have HAL := Lib.hid hal
      have HNPK := Lib.hid hnpk
      have HLE := Lib.hid hle
      clear hsh hnpk hle hk hal hnp0 hkm hki
      clear ih
      go_wp2_with fail
      refine HLF0.out.mono ?_
      rintro e w2 ⟨rfl, rfl⟩
      go_wp2_with fail
      refine HIH.out.mono ?_
      clear HIH HLF0 pc c1 c0
      rintro e w2 ⟨old, had, k', rfl, hlk, hok, hfl, hgk, hn1, hn2, hnh, hst⟩
      have HD1 : Hid (Dj (Hd.mk hg hA hc (some ⟨pb, 0, none⟩) he hxs).own k.own) := (HOK.out.sep.1 k (by simp)).1
      have HH2 : Hid ((Hd.mk hg hA hc (some ⟨pb, 0, none⟩) he hxs).lies tkS w2 ((a ++ [k'] ++ b).map Tr.g)) := by
        have h1 := Hd.lies.fr (HOK.out.lies.1.fr HF1.out fun _ _ h => h) hst.fr HD1.out
        rw [map_mid, hgk, ← map_mid]
        exact h1
      have HLK := Lib.hid hlk
      have HOK2 := Lib.hid hok
      have HFL := Lib.hid hfl
      have HGK := Lib.hid hgk
      have HN1 := Lib.hid hn1
      have HN2 := Lib.hid hn2
      have HNH := Lib.hid hnh
      have HST := Lib.hid hst
      clear hlk hok hfl hgk hn1 hn2 hnh hst
      obtain ⟨b1, b2, b3⟩ := HH2.out
      obtain ⟨k1, k2, k3⟩ := Tr.lies_hd HOK2.out.lies
      unfold tkS at b1 b2 b3 k1 k2 k3
      dsimp only at b1 b2 b3 k1 k2 k3
      have hnpl : ((a ++ [k'] ++ b).map Tr.g).length = np := by rw [HNPK.out, List.length_map]; simp
      rw [hnpl] at b1 b3
      rw [← HNN.out] at b1 b2
      obtain ⟨kn, hkn⟩ : ∃ kn, kn = k'.hd.xs.length := ⟨_, rfl⟩
      rw [← hkn] at k1 k2
      have hki2 : ((a ++ [k'] ++ b).map Tr.g)[i]? = some k'.hd.g := by
        have h1 := HKI.out
        rw [map_mid] at h1 ⊢
        rw [List.getElem?_append_right (by rw [List.length_map, HAL.out]; omega), List.length_map, HAL.out, Nat.sub_self]
        rfl
      have c1 : w2.cell? ⟨hg, 1, none⟩ = some (.slice (some ⟨pb, 0, none⟩) np he) := b1.cell 1
      have pc : w2.cell? ⟨pb, i, none⟩ = some (.pointer (some ⟨k'.hd.g, 0, none⟩)) := b3.cellP hki2
      have kc0 : w2.cell? ⟨k'.hd.g, 0, none⟩ = some (.slice k'.hd.A kn k'.hd.c) := k1.cell 0
      have HKN := Lib.hid hkn
      have HKI2 := Lib.hid hki2
      clear b1 b2 b3 k1 k2 k3 hnpl hkn hki2
      by_cases h17 : kn = 17
      · have hgt : (16 : Int) < (kn : Int) := by omega
        have HDK : Hid (Dj (Hd.mk hg hA hc (some ⟨pb, 0, none⟩) he hxs).own k'.own) := (HST.out.dj HD1.out.symm fun b hb => Nat.lt_of_lt_of_le (HOK.out.lies.1.lt hb) HF1.out.size).symm
        have HLN : Hid (((a ++ [k'] ++ b).map Tr.g).length = np) := by show _ = _; rw [HNPK.out, List.length_map]; simp
        have HPT := Lib.hid (partS_any w2 _ k'.hd _ k'.ptrs i HH2.out (Tr.lies_hd HOK2.out.lies) HKI2.out (by have := HLE.out; exact this) (by have := HNX.out; show hxs.length ≤ 100; omega) (by rw [HLN.out, HNPK.out, HSH.out]; have := HNX.out; omega) (by rw [← HKN.out]; exact h17) (by have := Tr.ptrs_len HOK2.out.shape; have h3 : k'.n = 17 := HKN.out.symm.trans h17; rw [h3] at this; exact this) (HDK.out.mono (fun _ h => h) fun _ h => k'.own_hd h))
        go_wp2_with fail
        refine HPT.out.mono ?_
        clear HPT c1 pc kc0
        rintro e w3 ⟨⟨vv, rfl⟩, h', l, r, m, hm, hx', hlx, hrx, hl', hll, hrl, hg', hlg, ho', hlo, hro, hdj, hfr⟩
        have HP := Lib.hid (And.intro hm (And.intro hx' (And.intro hlx (And.intro hrx (And.intro hl' (And.intro hll (And.intro hrl (And.intro hg' (And.intro hlg (And.intro ho' (And.intro hlo (And.intro hro (And.intro hdj hfr)))))))))))))
        clear hm hx' hlx hrx hl' hll hrl hg' hlg ho' hlo hro hdj hfr
        go_wp2_with fail
        go_ret2
        obtain ⟨hm, hx', hlx, hrx, hl', hll, hrl, hg', hlg, ho', hlo, hro, hdj, hfr⟩ := HP.out
        have hKN : k'.n = 17 := HKN.out.symm.trans h17
        obtain ⟨tl, tr, e1, e2, ol, or', hfl2, wl, wr, djl⟩ := Tr.parted hfr HOK2.out hKN hm hlx hrx hll hrl hlo hro (fun b hb => by
          rcases hb with hb | hb
          · exact .inr fun hk => HDK.out b hb hk
          · exact .inl hb)
        have hz1 := HF1.out.size
        have hz2 := HST.out.fr.size
        have hkl : ∀ x, k'.own x → k.own x ∨ w.heap.size ≤ x := fun x hx => by
          rcases HST.out.new x hx with h | h
          · exact .inl h
          · exact .inr (by omega)
        have hseg := Tr.ok_seg (m := [k]) (m' := [tl, tr]) (h' := h') (C := fun x => (Hd.mk hg hA hc (some ⟨pb, 0, none⟩) he hxs).own x ∨ k.own x) HOK.out
          (((HF1.out.mono fun _ _ h => h.elim).step HST.out.fr fun _ _ h => .inr h).step hfr fun x hx h => by
            rcases h with h | h
            · exact .inl h
            · rcases hkl x (k'.own_hd h) with h2 | h2
              · exact .inr h2
              · omega)
          (fun x hx => by rcases hx with h | h; exact .inl h; exact .inr ⟨k, List.mem_singleton.2 rfl, h⟩)
          (by
            have e3 : (a ++ [k'] ++ b).map Tr.g = a.map Tr.g ++ k'.g :: b.map Tr.g := map_mid _ _ _ _
            have e4 : (a ++ [tl, tr] ++ b).map Tr.g = a.map Tr.g ++ k'.g :: r.g :: b.map Tr.g := by
              simp only [List.map_append, List.map_cons, List.append_assoc, List.cons_append, List.nil_append]
              rw [show Tr.g tl = k'.g from (congrArg Hd.g e1).trans hlg, show Tr.g tr = r.g from congrArg Hd.g e2]
            have h1 := hl'
            rw [e3] at h1
            rw [e4]
            have hal : (a.map Tr.g).length = i := by rw [List.length_map]; exact HAL.out
            have e5 : (a.map Tr.g ++ k'.g :: b.map Tr.g).take (i + 1) = a.map Tr.g ++ [k'.g] := by rw [← hal, List.take_length_add_append]; rfl
            have e6 : (a.map Tr.g ++ k'.g :: b.map Tr.g).drop (i + 1) = b.map Tr.g := by rw [← hal, List.drop_length_add_append]; rfl
            rw [e5, e6, List.append_assoc] at h1
            exact h1)
          (fun x hx => by
            rcases ho' x hx with h | h
            · exact .inl h
            · exact .inr (.inr (by omega)))
          (by
            have hk1 : ∀ x, tl.own x → (∃ q ∈ [k], q.own x) ∨ (Hd.mk hg hA hc (some ⟨pb, 0, none⟩) he hxs).own x ∨ w.heap.size ≤ x := fun x hx => by
              rcases hkl x (wl x hx) with h | h
              · exact .inl ⟨k, List.mem_singleton.2 rfl, h⟩
              · exact .inr (.inr h)
            have hk2 : ∀ x, tr.own x → (∃ q ∈ [k], q.own x) ∨ (Hd.mk hg hA hc (some ⟨pb, 0, none⟩) he hxs).own x ∨ w.heap.size ≤ x := fun x hx => by
              rcases wr x hx with h | h
              · exact .inr (.inr (by have := hro x h; omega))
              · rcases hkl x h with h | h
                · exact .inl ⟨k, List.mem_singleton.2 rfl, h⟩
                · exact .inr (.inr h)
            have hd1 : Dj h'.own k'.own := fun x h1 h2 => by
              rcases ho' x h1 with h | h
              · exact HDK.out x h h2
              · have := HOK2.out.lt h2; omega
            have hkx : k'.hd.xs.length = 17 := hKN
            intro q hq
            rcases List.mem_cons.1 hq with rfl | hq
            · refine ⟨ol, ?_, ?_, hk1, fun x h1 h2 => hd1 x h1 (wl x h2)⟩
              · show 8 ≤ q.hd.xs.length; rw [e1, hlx, List.length_take, hkx]; decide
              · show q.hd.xs.length ≤ 16; rw [e1, hlx, List.length_take, hkx]; decide
            · obtain rfl := List.mem_singleton.1 hq
              refine ⟨or', ?_, ?_, hk2, fun x h1 h2 => ?_⟩
              · show 8 ≤ q.hd.xs.length; rw [e2, hrx, List.length_drop, hkx]; decide
              · show q.hd.xs.length ≤ 16; rw [e2, hrx, List.length_drop, hkx]; decide
              · rcases wr x h2 with h | h
                · exact hdj x h1 h
                · exact hd1 x h1 h)
          (by rw [List.pairwise_cons]; exact ⟨fun q hq => by obtain rfl := List.mem_singleton.1 hq; exact djl, List.pairwise_singleton _ _⟩)
          (by
            have h1 := HSH.out
            have h3 := HLE.out
            rw [hx']
            simp only [List.length_append, List.length_cons, List.length_nil, List.length_take, List.length_drop] at h1 ⊢
            omega)
        have hal := HAL.out
        have hle2 := HLE.out
        have hlen := HSH.out
        refine ⟨old, had, .node h' (a ++ [tl, tr] ++ b), rfl, ?_, hseg.1, ?_, hg', ?_, ?_, (fun hh => by have h3 : k'.n = k.n := HNH.out hh; have h4 := HKID.out.2.2; omega), hseg.2⟩
        · show Lk _ _ (Tr.node _ _).flat _ _
          rw [HFM.out]
          exact HLK.out.mid linS HSD.out.1 HSD.out.2
        · show _ = putL _ _ _ (Tr.node _ _).flat
          rw [HFM.out, putL_mid linS HSD.out.1 HSD.out.2, ← HFL.out, ← hfl2, hal]
          simp only [List.length_append, List.length_cons, List.length_nil] at hlen
          exact Tr.flat_two hx' (by rw [List.length_take]; omega) (by rw [List.length_drop]; omega)
        · show hxs.length ≤ h'.xs.length
          rw [hx']; simp only [List.length_append, List.length_cons, List.length_take, List.length_drop]; omega
        · show h'.xs.length ≤ hxs.length + 1
          rw [hx']; simp only [List.length_append, List.length_cons, List.length_take, List.length_drop]; omega
      · have hgt : ¬ (16 : Int) < (kn : Int) := by have h1 := HN2.out; have h2 := HKID.out.2.2; have h3 : kn = k'.n := HKN.out; omega
        have HKN16 : Hid (k'.n ≤ 16) := by have h1 := HN2.out; have h2 := HKID.out.2.2; have h3 : kn = k'.n := HKN.out; show _ ≤ _; omega
        go_wp2_with fail
        go_ret2
        have hz1 := HF1.out.size
        have hkl : ∀ x, k'.own x → k.own x ∨ w.heap.size ≤ x := fun x hx => by
          rcases HST.out.new x hx with h | h
          · exact .inl h
          · exact .inr (by omega)
        have hseg := Tr.ok_seg (m := [k]) (m' := [k']) (h' := ⟨hg, hA, hc, some ⟨pb, 0, none⟩, he, hxs⟩) (C := fun x => k.own x) HOK.out
          ((HF1.out.mono fun _ _ h => h.elim).step HST.out.fr fun _ _ h => h) (fun x hx => .inr ⟨k, List.mem_singleton.2 rfl, hx⟩) HH2.out (fun x hx => .inl hx)
          (fun q hq => by
            obtain rfl := List.mem_singleton.1 hq
            refine ⟨HOK2.out, Nat.le_trans HKID.out.2.1 HN1.out, HKN16.out, fun x hx => ?_, (HST.out.dj HD1.out.symm fun b hb => Nat.lt_of_lt_of_le (HOK.out.lies.1.lt hb) HF1.out.size).symm⟩
            rcases hkl x hx with h | h
            · exact .inl ⟨k, List.mem_singleton.2 rfl, h⟩
            · exact .inr (.inr h))
          (List.pairwise_singleton _ _) (by have := HSH.out; simpa using this)
        refine ⟨old, had, .node ⟨hg, hA, hc, some ⟨pb, 0, none⟩, he, hxs⟩ (a ++ [k'] ++ b), rfl, ?_, hseg.1, ?_, rfl, Nat.le_refl _, Nat.le_succ _, (fun _ => rfl), hseg.2⟩
        · show Lk _ _ (Tr.node _ _).flat _ _
          rw [HFM.out]
          exact HLK.out.mid linS HSD.out.1 HSD.out.2
        · show _ = putL _ _ _ (Tr.node _ _).flat
          rw [HFM.out, putL_mid linS HSD.out.1 HSD.out.2, ← HFL.out]
          exact Tr.flat_mid (by have := HSH.out; simpa using this)
end Go.Proofs.Ytcpgonioobgpoaa
