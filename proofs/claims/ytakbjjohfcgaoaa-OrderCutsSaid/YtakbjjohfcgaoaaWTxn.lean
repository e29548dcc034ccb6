/- The program's writer: a transaction. Conditions: the pen is younger than the transaction, numbers are small. -/
import Derived.Test.YtakbjjohfcgaoaaWriter
import Derived.Test.YtakbjjohfcgaoaaAlike
import Derived.Deep.RegionHeld3
import Derived.Deep.RegionWith
namespace Go.Proofs.Ytakbjjohfcgaoaa
open Go.RowKit

set_option maxRecDepth 100000 in
set_option maxHeartbeats 1000000 in
theorem fold_any (w : World) (n : Int) (hn : nB n) : Calls Try.prog 84 #[.int .i64 n] w fun e w' => e = .returned (.int .u64 ((foldN n : Nat) : Int)) ∧ w = w' := by
  unfold nB at hn
  obtain ⟨h1, h2⟩ := hn
  by_cases h : n < 0
  · have e1 : IntKind.i64.wrap (-1 - n) = -1 - n := IntWalk.i64_in _ (by omega)
    have e2 : (-1 - n) % 18446744073709551616 = -1 - n := by omega
    have e3 : (2 * (-1 - n)) % 18446744073709551616 = 2 * (-1 - n) := by omega
    have e4 : (2 * (-1 - n) + 1) % 18446744073709551616 = 2 * (-1 - n) + 1 := by omega
    have e5 : ((foldN n : Nat) : Int) = 2 * (-1 - n) + 1 := by unfold foldN; rw [if_neg (by omega)]; omega
    have HE := Lib.hid e5
    clear e5 h1 h2
    go_enter Try.func84, Try.ntmps84
    go_wp2_with fail
    go_ret
    exact ⟨by rw [HE.out]; rfl, rfl⟩
  · have e2 : n % 18446744073709551616 = n := by omega
    have e3 : (2 * n) % 18446744073709551616 = 2 * n := by omega
    have e5 : ((foldN n : Nat) : Int) = 2 * n := by unfold foldN; rw [if_pos (by omega)]; omega
    have HE := Lib.hid e5
    clear e5 h1 h2
    go_enter Try.func84, Try.ntmps84
    go_wp2_with fail
    go_ret
    exact ⟨by rw [HE.out]; rfl, rfl⟩

theorem Wro.keep {w w' : World} {base g : Nat} {v v' : Value} {l l' : List UInt8} (hp : Pen w base g v l) (h : Wro w w' base g v v' l') {k : Nat} {T : TypeId} {cs : Array Value} (hb : Bk w k T cs) (h1 : 5 ≠ T) (h2 : T ≠ 71) : Bk w' k T cs :=
  hb.fr h.fr fun e => by
    rcases e with e | e
    · exact Bk.apart hb hp.bk h2 e
    · exact own_apart hp.own hb h1 e.symm
theorem Wro.old {w0 w w' : World} {base g : Nat} {v v' : Value} {l l' : List UInt8} (h0 : Fr NoBlk w0 w) (hg : w0.heap.size ≤ g) (hb : w0.heap.size ≤ base) (hp : Pen w base g v l) (h : Wro w w' base g v v' l') : Fr NoBlk w0 w' :=
  h0.step h.fr fun i hi e => by
    rcases e with e | e
    · omega
    · have := (own_blk hp.own e.symm).1; omega
/-- numbers as a literal, written. -/
theorem wlit_any (w : World) (base g : Nat) (ns : List Nat) (v : Value) (l : List UInt8) (hp : Pen w base g v l) (hb : base ≤ w.heap.size) (h64 : ∀ x ∈ ns, x < 2 ^ 64) (hns : ns.length ≤ 1000) (hl : (l ++ nums ns).length ≤ 100000000) :
    Calls Try.prog 37 #[.pointer (some ⟨g, 0, none⟩), .slice (some ⟨w.heap.size, 0, none⟩) ns.length ns.length] (w.alloc (.cells (uc ns).toArray 22)) fun e w' => e = .returned (.tuple #[]) ∧ ∃ v', Wro w w' base g v v' (l ++ nums ns) := by
  have hf : Fr NoBlk w (w.alloc (.cells (uc ns).toArray 22)) := (Fr.refl _ _).alloc _
  refine (wnums_any _ base g (some ⟨w.heap.size, 0, none⟩) ns.length ns.length ns v l (hp.nofr hf) (Nat.le_trans hb hf.size) rfl (Rd.of_cells (Bk.new _ _ _)) h64 (fun _ k hk => ?_) hns hl).mono fun e w' ⟨he, v', h⟩ => ⟨he, v', Wro.pre hf h⟩
  obtain ⟨ad, e, rfl⟩ := hk
  injection e with e
  subst e
  have := hp.lt
  exact ⟨by show w.heap.size ≠ g; omega, fun e => absurd (this.2 _ e.symm) (Nat.lt_irrefl _)⟩

theorem sep_old {w0 w : World} {base g : Nat} {v : Value} {l : List UInt8} {A : Option Addr} {xs : List Value} (hr : Rd w0 A xs) (hg : w0.heap.size ≤ g) (hb0 : w0.heap.size ≤ base) (hp : Pen w base g v l) (hx : 0 < xs.length) : ∀ k, ablk A k → k ≠ g ∧ some k ≠ v.ownBlock := by
  intro k hk
  have := hr.lt hx hk
  exact ⟨by omega, fun e => by have := (own_blk hp.own e.symm).1; omega⟩
/-- how far the writer has come: the pen, a box of the call's own, what lay before. -/
structure WSt (w0 w wr : World) (base g : Nat) (v v' : Value) (l : List UInt8) (k : Nat) (T : TypeId) (cs : Array Value) : Prop where
  wro : Wro w wr base g v v' l
  bk : Bk wr k T cs
  old : Fr NoBlk w0 wr
  le : base ≤ wr.heap.size
/-- the same, without a box. -/
structure WS (w0 w wr : World) (base g : Nat) (v v' : Value) (l : List UInt8) : Prop where
  wro : Wro w wr base g v v' l
  old : Fr NoBlk w0 wr
  le : base ≤ wr.heap.size
theorem WSt.ws {w0 w wr : World} {base g : Nat} {v v1 : Value} {l1 : List UInt8} {k : Nat} {T : TypeId} {cs : Array Value} (h : WSt w0 w wr base g v v1 l1 k T cs) : WS w0 w wr base g v v1 l1 := ⟨h.wro, h.old, h.le⟩
theorem WS.nofr {w0 w wr wx : World} {base g : Nat} {v v1 : Value} {l1 : List UInt8} (h : WS w0 w wr base g v v1 l1) (hf : Fr NoBlk wr wx) : WS w0 w wx base g v v1 l1 :=
  ⟨⟨h.wro.pen.nofr hf, h.wro.fr.step hf fun _ _ h => h.elim, h.wro.blk⟩, h.old.trans hf, Nat.le_trans h.le hf.size⟩
theorem WS.next {w0 w wr wx : World} {base g : Nat} {v v1 v2 : Value} {l1 l2 : List UInt8} (h : WS w0 w wr base g v v1 l1) (hn : Wro wr wx base g v1 v2 l2) (hg : w0.heap.size ≤ g) (hb0 : w0.heap.size ≤ base) : WS w0 w wx base g v v2 l2 :=
  ⟨h.wro.trans hn, Wro.old h.old hg hb0 h.wro.pen hn, Nat.le_trans h.le hn.fr.size⟩
theorem WS.box {w0 w wr : World} {base g : Nat} {v v1 : Value} {l1 : List UInt8} (h : WS w0 w wr base g v v1 l1) (T : TypeId) (cs : Array Value) : WSt w0 w (wr.alloc (.cells cs T)) base g v v1 l1 wr.heap.size T cs :=
  have k := h.nofr ((Fr.refl NoBlk wr).alloc (.cells cs T))
  ⟨k.wro, Bk.new _ _ _, k.old, k.le⟩
theorem WSt.next {w0 w wr wx : World} {base g : Nat} {v v1 v2 : Value} {l1 l2 : List UInt8} {k : Nat} {T : TypeId} {cs : Array Value} (h : WSt w0 w wr base g v v1 l1 k T cs) (hn : Wro wr wx base g v1 v2 l2) (hg : w0.heap.size ≤ g) (hb0 : w0.heap.size ≤ base) (h1 : 5 ≠ T) (h2 : T ≠ 71) :
    WSt w0 w wx base g v v2 l2 k T cs :=
  ⟨h.wro.trans hn, hn.keep h.wro.pen h.bk h1 h2, Wro.old h.old hg hb0 h.wro.pen hn, Nat.le_trans h.le hn.fr.size⟩
theorem WSt.nofr {w0 w wr wx : World} {base g : Nat} {v v1 : Value} {l1 : List UInt8} {k : Nat} {T : TypeId} {cs : Array Value} (h : WSt w0 w wr base g v v1 l1 k T cs) (hf : Fr NoBlk wr wx) : WSt w0 w wx base g v v1 l1 k T cs :=
  ⟨⟨h.wro.pen.nofr hf, h.wro.fr.step hf fun _ _ h => h.elim, h.wro.blk⟩, h.bk.fr hf (fun h => h), h.old.trans hf, Nat.le_trans h.le hf.size⟩

/-- a transaction whose numbers may be written. -/
structure WTx (t : Tx) : Prop where
  kind : 0 ≤ t.kind ∧ t.kind ≤ 1000
  to_ : 0 ≤ t.to ∧ t.to ≤ 1000
  ops : ∀ x ∈ t.ops, 0 ≤ x.kind ∧ x.kind ≤ 1000 ∧ nB x.n

set_option maxRecDepth 100000 in
set_option maxHeartbeats 8000000 in
theorem wtxn_any (w0 w : World) (base g : Nat) (t : Tx) (v : Value) (l : List UInt8) (ht : TxIn w0 t) (h0 : Fr NoBlk w0 w) (hg : w0.heap.size ≤ g) (hb0 : w0.heap.size ≤ base) (hp : Pen w base g v l) (hb : base ≤ w.heap.size) (hw : WTx t) (hs : Small t)
    (hl : (l ++ txnB t).length ≤ 100000000) :
    Calls Try.prog 55 #[.pointer (some ⟨g, 0, none⟩), txv t] w fun e w' => e = .returned (.tuple #[]) ∧ ∃ v', Wro w w' base g v v' (l ++ txnB t) := by
  obtain ⟨kn, hkn⟩ : ∃ kn : Nat, t.kind = kn := ⟨t.kind.toNat, by have := hw.kind; omega⟩
  obtain ⟨tn, htn⟩ : ∃ tn : Nat, t.to = tn := ⟨t.to.toNat, by have := hw.to_; omega⟩
  have hkb := hw.kind
  have htb := hw.to_
  have HWO := Lib.hid hw.ops
  have HT := Lib.hid ht
  have HS := Lib.hid hs
  have H0 := Lib.hid h0
  have HP := Lib.hid hp
  have HTB : Hid (txnB t = nums [kn, tn] ++ (keysB t.reads ++ (keysB t.writes ++ (num t.ops.length ++ t.ops.flatMap opB)))) := by
    show _ = _
    unfold txnB
    rw [hkn, htn]
    rfl
  have HL := Lib.hid hl
  have HF1 : Hid (Fr NoBlk w (w.alloc (.cells (txa t) 30))) := (Fr.refl _ _).alloc _
  have HB1 := Lib.hid (Bk.new w 30 (txa t))
  obtain ⟨w1, hw1⟩ : ∃ w1, w1 = w.alloc (.cells (txa t) 30) := ⟨_, rfl⟩
  rw [← hw1] at HF1 HB1
  have hsz1 : w1.heap.size = w.heap.size + 1 := by rw [hw1]; simp
  have HP1 := Lib.hid (hp.nofr HF1.out)
  have hbl := hs
  have hlen : (l ++ (nums [kn, tn] ++ (keysB t.reads ++ (keysB t.writes ++ (num t.ops.length ++ t.ops.flatMap opB))))).length ≤ 100000000 := by rw [← HTB.out]; exact hl
  simp only [List.length_append] at hlen
  have HLEN := Lib.hid hlen
  have HK1 := Lib.hid (wlit_any w1 base g [kn, tn] v l HP1.out (by omega) (fun x hx => by
    simp only [List.mem_cons, List.not_mem_nil, or_false] at hx
    rcases hx with rfl | rfl <;> omega) (by show 2 ≤ 1000; omega) (by rw [List.length_append]; omega))
  have hrl := hs.r
  have hwl := hs.w
  have hol := hs.o
  obtain ⟨q0, q1, q2, q3, q4⟩ := HB1.out.txn
  rw [hkn] at q0
  rw [htn] at q4
  clear ht hw h0 hl hp hs hbl hlen
  unfold txv txa
  unfold txa at hw1
  rw [hkn, htn] at hw1 ⊢
  rw [hkn] at hkb
  rw [htn] at htb
  have e1 : ((kn : Int) % 18446744073709551616) = kn := by omega
  have e2 : ((tn : Int) % 18446744073709551616) = tn := by omega
  clear hkn htn hkb htb
  rw [hsz1] at HK1
  have HSZ1 := Lib.hid hsz1
  clear hsz1
  unfold uc at HK1
  simp only [List.map_cons, List.map_nil, List.length_cons, List.length_nil] at HK1
  go_enter Try.func55, Try.ntmps55
  clear q0 q1 q2 q3 q4
  go_wp2_with fail
  rw [← hw1]
  clear hw1
  refine HK1.out.mono ?_
  rintro e w2 ⟨rfl, v2, hw2⟩
  have HS1 : Hid (WSt w0 w w1 base g v v l w.heap.size 30 (txa t)) := ⟨⟨HP1.out, HF1.out.mono (fun _ _ h => h.elim), .inl rfl⟩, HB1.out, H0.out.trans HF1.out, by have := HSZ1.out; omega⟩
  have HS2 := Lib.hid (HS1.out.next hw2 hg hb0 (by decide) (by decide))
  clear hw2 HK1 HP1 HB1 e1 e2
  obtain ⟨q0, q1, q2, q3, q4⟩ := HS2.out.bk.txn
  have HK2 := Lib.hid (wkeys_any w2 base g t.ra _ t.rc t.reads v2 (l ++ nums [kn, tn]) HS2.out.wro.pen HS2.out.le rfl (HT.out.reads.nofr HS2.out.old) (fun hx => sep_old HT.out.reads hg hb0 HS2.out.wro.pen (by rw [sts_len]; exact hx)) (by omega) (by have := HLEN.out; simp only [List.length_append]; omega))
  go_wp2_with fail
  refine HK2.out.mono ?_
  rintro e w3 ⟨rfl, v3, hw3⟩
  have HS3 := Lib.hid (HS2.out.next hw3 hg hb0 (by decide) (by decide))
  clear hw3 HK2 q0 q1 q2 q3 q4
  obtain ⟨q0, q1, q2, q3, q4⟩ := HS3.out.bk.txn
  have HK3 := Lib.hid (wkeys_any w3 base g t.wa _ t.wc t.writes v3 (l ++ nums [kn, tn] ++ keysB t.reads) HS3.out.wro.pen HS3.out.le rfl (HT.out.writes.nofr HS3.out.old) (fun hx => sep_old HT.out.writes hg hb0 HS3.out.wro.pen (by rw [sts_len]; exact hx)) (by omega) (by have := HLEN.out; simp only [List.length_append]; omega))
  go_wp2_with fail
  refine HK3.out.mono ?_
  rintro e w4 ⟨rfl, v4, hw4⟩
  have HS4 := Lib.hid (HS3.out.next hw4 hg hb0 (by decide) (by decide))
  clear hw4 HK3 q0 q1 q2 q3 q4
  obtain ⟨q0, q1, q2, q3, q4⟩ := HS4.out.bk.txn
  have HK4 := Lib.hid (wlit_any w4 base g [t.ops.length] v4 (l ++ nums [kn, tn] ++ keysB t.reads ++ keysB t.writes) HS4.out.wro.pen HS4.out.le (fun x hx => by
    rw [List.mem_singleton.1 hx]; omega) (by show 1 ≤ 1000; omega) (by have := HLEN.out; simp only [List.length_append, nums, List.flatMap_cons, List.flatMap_nil, List.length_nil] at this ⊢; omega))
  unfold uc at HK4
  simp only [List.map_cons, List.map_nil, List.length_cons, List.length_nil] at HK4
  have e3 : ((t.ops.length : Int) % 18446744073709551616) = t.ops.length := by omega
  go_wp2_with fail
  refine HK4.out.mono ?_
  rintro e w5 ⟨rfl, v5, hw5⟩
  have HS5 := Lib.hid (HS4.out.next hw5 hg hb0 (by decide) (by decide))
  clear hw5 HK4 q0 q1 q2 q3 q4 e3
  obtain ⟨q0, q1, q2, q3, q4⟩ := HS5.out.bk.txn
  go_wp2_with fail
  clear q0 q1 q2 q3 q4 HS2 HS3 HS4
  go_loopw [33] (fun s wr => ∃ (k : Nat) (v' : Value), k ≤ t.ops.length ∧ s = .int .i64 k ∧ Hid (WS w0 w wr base g v v' (l ++ (nums [kn, tn] ++ (keysB t.reads ++ (keysB t.writes ++ (num t.ops.length ++ (t.ops.take k).flatMap opB))))))) (fun s _ => t.ops.length - (intOf s).toNat)
  case atStart =>
    refine ⟨0, v5, by omega, rfl, ?_⟩
    show WS _ _ _ _ _ _ _ _
    have h := HS5.out.ws
    simpa [nums, List.append_assoc] using h
  case round =>
    obtain ⟨k, v6, hk, rfl, HW⟩ := hrel
    by_cases hlt : k < t.ops.length
    · obtain ⟨x, hx⟩ : ∃ x, t.ops[k]? = some x := ⟨_, List.getElem?_eq_getElem hlt⟩
      obtain ⟨b, o, hA, x0, x1, x2, x3⟩ := (HT.out.ops.nofr HW.out.old).opn hx
      have hxb := HWO.out x (List.mem_of_getElem? hx)
      obtain ⟨kx, hkx⟩ : ∃ kx : Nat, x.kind = kx := ⟨x.kind.toNat, by omega⟩
      have hkb : kx ≤ 1000 := by omega
      have HNB := Lib.hid hxb.2.2
      have HVP := Lib.hid (HT.out.vals x (List.mem_of_getElem? hx))
      have HXS := Lib.hid (HS.out.ok x (List.mem_of_getElem? hx))
      have HSN := Lib.hid (flat_snoc opB t.ops k x hx)
      have HOB : Hid (opB x = num kx ++ (textB x.key ++ (textB x.val.2.2 ++ num (foldN x.n)))) := by
        show _ = _
        unfold opB
        rw [hkx]
        rfl
      generalize hL : l ++ (nums [kn, tn] ++ (keysB t.reads ++ (keysB t.writes ++ (num t.ops.length ++ (t.ops.take k).flatMap opB)))) = L at *
      have hLn : L.length + (opB x).length ≤ 100000000 := by
        have h1 := HLEN.out
        have h2 := flat_le opB t.ops (k + 1)
        rw [HSN.out] at h2
        rw [← hL]
        simp only [List.length_append] at h1 h2 ⊢
        omega
      have hLn2 := hLn
      rw [HOB.out] at hLn2
      unfold textB at hLn2
      simp only [List.length_append] at hLn2
      have HLN := Lib.hid hLn2
      have HHL := Lib.hid hL
      clear hL hLn hLn2 hxb hx
      rw [hkx] at x0
      have HB0 := Lib.hid (HW.out.box 47 #[.int .i64 (kx : Int), st x.key, sl x.val, .int .i64 x.n])
      clear hkx
      obtain ⟨wb, hwb⟩ : ∃ wb, wb = wr.alloc (.cells #[.int .i64 (kx : Int), st x.key, sl x.val, .int .i64 x.n] 47) := ⟨_, rfl⟩
      rw [← hwb] at HB0
      have hszb : wb.heap.size = wr.heap.size + 1 := by rw [hwb]; simp
      have HK6 := wlit_any wb base g [kx] v6 L HB0.out.wro.pen HB0.out.le (fun y hy => by rw [List.mem_singleton.1 hy]; omega) (by show 1 ≤ 1000; omega) (by have := HLN.out; simp only [List.length_append, nums, List.flatMap_cons, List.flatMap_nil, List.length_nil]; omega)
      unfold uc at HK6
      simp only [List.map_cons, List.map_nil, List.length_cons, List.length_nil] at HK6
      rw [hszb] at HK6
      have HK6 := Lib.hid HK6
      have e6 : ((kx : Int) % 18446744073709551616) = kx := by omega
      unfold st at x1 hwb
      unfold sl at x2 hwb
      have HSZB := Lib.hid hszb
      rw [hA]
      clear hszb hkb
      go_wp2_with fail
      rw [← hwb]
      clear hwb
      refine HK6.out.mono ?_
      rintro e w7 ⟨rfl, v7, hw7⟩
      have HS7 := Lib.hid (HB0.out.next hw7 hg hb0 (by decide) (by decide))
      clear hw7 HK6 e6 x0 x1 x2 x3
      have c1 : w7.cell? ⟨wr.heap.size, 1, none⟩ = some (.string (bstr x.key)) := HS7.out.bk.cell 1
      obtain ⟨W8, c8, hcv, hrd8, hfr8⟩ := conv w7.drew x.key
      have HF8 : Hid (Fr NoBlk w7 W8) := ((Fr.refl NoBlk w7).drew).trans hfr8
      have HRD8 := Lib.hid hrd8
      have HS8 := Lib.hid (HS7.out.nofr HF8.out)
      have c81 : W8.cell? ⟨wr.heap.size, 1, none⟩ = some (.string (bstr x.key)) := HS8.out.bk.cell 1
      have HLT7 := Lib.hid HS7.out.wro.pen.lt
      have HK8 := Lib.hid (text_any W8 base g (some ⟨w7.heap.size, 0, none⟩) x.key.length c8 x.key v7 (L ++ nums [kx]) HS8.out.wro.pen HS8.out.le rfl hrd8 (fun h => by cases h)
        (fun _ j hj => by
          obtain ⟨ad, e, rfl⟩ := hj
          injection e with e
          subst e
          exact ⟨by have := HLT7.out.1; show w7.heap.size ≠ g; omega, fun e => absurd (HLT7.out.2 _ e.symm) (Nat.lt_irrefl _)⟩) (by have := HXS.out.1; omega) (by have := HLN.out; simp only [List.length_append, nums, List.flatMap_cons, List.flatMap_nil, List.length_nil]; omega))
      clear hrd8 hfr8
      go_wp2_with fail
      refine wp_region_held_drew (S := fun w' => w'.cell? ⟨wr.heap.size, 1, none⟩ = some (.string (bstr x.key))) (by kernel_rfl) (by exact c1) (fun hHeld => ?_)
      refine wpAnyH_take (i := 0) (oi := ⟨some 43, _, _, _, _, _⟩) (v := ?_) rfl (by kernel_rfl) (by kernel_rfl) (by kernel_rfl) (fun _ _ _ h => h) (Or.inl ⟨by rfl, ?_⟩) (by assumption) ?_
      rotate_left 1
      · (intro w hSw; (try dsimp only at hSw); go_simp) <;> (with_reducible rfl)
      try simp only [Act.put, List.setIfInBounds_toArray, List.set_cons_zero, List.set_cons_succ]
      refine wpAnyH_take (i := 1) (oi := ⟨some 44, _, _, _, _, _⟩) (v := ?_) rfl (by kernel_rfl) (by kernel_rfl) (by kernel_rfl) (fun _ _ _ h => h) (Or.inl ⟨by rfl, ?_⟩) (by assumption) ?_
      rotate_left 1
      · (intro w hSw; (try dsimp only at hSw); go_simp) <;> (with_reducible rfl)
      try simp only [Act.put, List.setIfInBounds_toArray, List.set_cons_zero, List.set_cons_succ]
      refine wpAnyH_take (i := 2) (oi := ⟨some 45, _, _, _, _, _⟩) (v := ?_) rfl (by kernel_rfl) (by kernel_rfl) (by kernel_rfl) (fun _ _ _ h => h) (Or.inl ⟨by rfl, ?_⟩) (by assumption) ?_
      rotate_left 1
      · (intro w hSw; (try dsimp only at hSw); go_simp) <;> (with_reducible rfl)
      try simp only [Act.put, List.setIfInBounds_toArray, List.set_cons_zero, List.set_cons_succ]
      refine wpAnyH_take (i := 3) (oi := ⟨some 46, _, _, _, _, _⟩) (v := ?_) rfl (by kernel_rfl) (by kernel_rfl) (by kernel_rfl) (fun _ _ _ h => h) (Or.inl ⟨by rfl, ?_⟩) (by assumption) ?_
      rotate_left 1
      · (intro w hSw; (try dsimp only at hSw); go_simp) <;> (with_reducible rfl)
      try simp only [Act.put, List.setIfInBounds_toArray, List.set_cons_zero, List.set_cons_succ]
      refine wpAnyH_take (i := 4) (oi := ⟨some 47, _, _, _, _, _⟩) (v := ?_) rfl (by kernel_rfl) (by kernel_rfl) (by kernel_rfl) (fun _ _ _ h => h) (Or.inl ⟨by rfl, ?_⟩) (by assumption) ?_
      rotate_left 1
      · (intro w hSw; (try dsimp only at hSw); go_simp) <;> (with_reducible rfl)
      try simp only [Act.put, List.setIfInBounds_toArray, List.set_cons_zero, List.set_cons_succ]
      refine wpAnyH_ready (rs := [5]) (by kernel_rfl) (by simp) ?_
      refine AllReadyH.cons (o := ⟨some 48, _, _, _, _, _⟩) rfl (fun K hK => ?_) AllReadyH.nil
      go_simp
      clear hHeld
      refine hK.out _ _ ?_ (fun hHeld => ?_)
      · exact c81
      clear hK K
      try simp only [Act.put, List.setIfInBounds_toArray, List.set_cons_zero, List.set_cons_succ]
      refine wpAnyH_ready (rs := [6]) (by kernel_rfl) (by simp) ?_
      refine AllReadyH.cons (o := ⟨some 49, _, _, _, _, _⟩) rfl (fun K hK => ?_) AllReadyH.nil
      go_simp
      go_at_call 83
      refine HK8.out.mono ?_
      rintro e w9 ⟨rfl, v9, hw9⟩
      have HS9 := Lib.hid (HS8.out.next hw9 hg hb0 (by decide) (by decide))
      have c91 : w9.cell? ⟨wr.heap.size, 1, none⟩ = some (.string (bstr x.key)) := HS9.out.bk.cell 1
      clear hw9 HK8
      clear hHeld
      refine hK.out _ _ ?_ (fun hHeld => ?_)
      · exact c91
      clear hK K
      try simp only [Act.put, List.setIfInBounds_toArray, List.set_cons_zero, List.set_cons_succ]
      refine wpAnyH_done (by kernel_rfl) ?_ _
      clear hHeld hcv c1 c81 c91
      go_wp2_with fail
      have c2 : w9.cell? ⟨wr.heap.size, 2, none⟩ = some (.slice x.val.1 x.val.2.2.length x.val.2.1) := HS9.out.bk.cell 2
      have HSD9 := Lib.hid (HS9.out.nofr ((Fr.refl NoBlk w9).drew))
      have HK9 := Lib.hid (text_any w9.drew base g x.val.1 _ x.val.2.1 x.val.2.2 v9 (L ++ nums [kx] ++ (num x.key.length ++ x.key)) HSD9.out.wro.pen HSD9.out.le rfl (HVP.out.1.1.nofr HSD9.out.old) HVP.out.1.2
        (fun hx => sep_old HVP.out.1.1 hg hb0 HSD9.out.wro.pen (by rw [cb_length]; exact hx)) (by have := HXS.out.2; omega) (by have := HLN.out; simp only [List.length_append, nums, List.flatMap_cons, List.flatMap_nil, List.length_nil]; omega))
      refine wp_region_held_drew (S := fun w' => w'.cell? ⟨wr.heap.size, 2, none⟩ = some (.slice x.val.1 x.val.2.2.length x.val.2.1)) (by kernel_rfl) (by exact c2) (fun hHeld => ?_)
      refine wpAnyH_take (i := 0) (oi := ⟨some 50, _, _, _, _, _⟩) (v := ?_) rfl (by kernel_rfl) (by kernel_rfl) (by kernel_rfl) (fun _ _ _ h => h) (Or.inl ⟨by rfl, ?_⟩) (by assumption) ?_
      rotate_left 1
      · (intro w hSw; (try dsimp only at hSw); go_simp) <;> (with_reducible rfl)
      try simp only [Act.put, List.setIfInBounds_toArray, List.set_cons_zero, List.set_cons_succ]
      refine wpAnyH_take (i := 1) (oi := ⟨some 51, _, _, _, _, _⟩) (v := ?_) rfl (by kernel_rfl) (by kernel_rfl) (by kernel_rfl) (fun _ _ _ h => h) (Or.inl ⟨by rfl, ?_⟩) (by assumption) ?_
      rotate_left 1
      · (intro w hSw; (try dsimp only at hSw); go_simp) <;> (with_reducible rfl)
      try simp only [Act.put, List.setIfInBounds_toArray, List.set_cons_zero, List.set_cons_succ]
      refine wpAnyH_take (i := 2) (oi := ⟨some 52, _, _, _, _, _⟩) (v := ?_) rfl (by kernel_rfl) (by kernel_rfl) (by kernel_rfl) (fun _ _ _ h => h) (Or.inl ⟨by rfl, ?_⟩) (by assumption) ?_
      rotate_left 1
      · (intro w hSw; (try dsimp only at hSw); go_simp) <;> (with_reducible rfl)
      try simp only [Act.put, List.setIfInBounds_toArray, List.set_cons_zero, List.set_cons_succ]
      refine wpAnyH_take (i := 3) (oi := ⟨some 53, _, _, _, _, _⟩) (v := ?_) rfl (by kernel_rfl) (by kernel_rfl) (by kernel_rfl) (fun _ _ _ h => h) (Or.inl ⟨by rfl, ?_⟩) (by assumption) ?_
      rotate_left 1
      · (intro w hSw; (try dsimp only at hSw); go_simp) <;> (with_reducible rfl)
      try simp only [Act.put, List.setIfInBounds_toArray, List.set_cons_zero, List.set_cons_succ]
      refine wpAnyH_take (i := 4) (oi := ⟨some 54, _, _, _, _, _⟩) (v := ?_) rfl (by kernel_rfl) (by kernel_rfl) (by kernel_rfl) (fun _ _ _ h => h) (Or.inl ⟨by rfl, ?_⟩) (by assumption) ?_
      rotate_left 1
      · (intro w hSw; (try dsimp only at hSw); go_simp) <;> (with_reducible rfl)
      try simp only [Act.put, List.setIfInBounds_toArray, List.set_cons_zero, List.set_cons_succ]
      refine wpAnyH_ready (rs := [5]) (by kernel_rfl) (by simp) ?_
      refine AllReadyH.cons (o := ⟨some 55, _, _, _, _, _⟩) rfl (fun K hK => ?_) AllReadyH.nil
      go_simp
      go_at_call 83
      refine HK9.out.mono ?_
      rintro e w10 ⟨rfl, v10, hw10⟩
      have HS10 := Lib.hid (HSD9.out.next hw10 hg hb0 (by decide) (by decide))
      have c102 : w10.cell? ⟨wr.heap.size, 2, none⟩ = some (.slice x.val.1 x.val.2.2.length x.val.2.1) := HS10.out.bk.cell 2
      clear hw10 HK9
      clear hHeld
      refine hK.out _ _ ?_ (fun hHeld => ?_)
      · exact c102
      clear hK K
      try simp only [Act.put, List.setIfInBounds_toArray, List.set_cons_zero, List.set_cons_succ]
      refine wpAnyH_done (by kernel_rfl) ?_ _
      clear hHeld c2 c102
      have c3 : w10.cell? ⟨wr.heap.size, 3, none⟩ = some (.int .i64 x.n) := HS10.out.bk.cell 3
      have HK10 := Lib.hid (fold_any w10 x.n HNB.out)
      have HK11 := wlit_any w10 base g [foldN x.n] v10 (L ++ nums [kx] ++ (num x.key.length ++ x.key) ++ (num x.val.2.2.length ++ x.val.2.2)) HS10.out.wro.pen HS10.out.le (fun y hy => by rw [List.mem_singleton.1 hy]; exact foldN_lt HNB.out) (by show 1 ≤ 1000; omega) (by have := HLN.out; simp only [List.length_append, nums, List.flatMap_cons, List.flatMap_nil, List.length_nil]; omega)
      unfold uc at HK11
      simp only [List.map_cons, List.map_nil, List.length_cons, List.length_nil] at HK11
      have HK11 := Lib.hid HK11
      go_wp2_with fail
      refine HK10.out.mono ?_
      rintro e w10' ⟨rfl, rfl⟩
      go_wp2_with fail
      refine HK11.out.mono ?_
      rintro e w11 ⟨rfl, v11, hw11⟩
      have HS11 := Lib.hid (HS10.out.ws.next hw11 hg hb0)
      have HX : Hid (WS w0 w w11 base g v v11 (l ++ (nums [kn, tn] ++ (keysB t.reads ++ (keysB t.writes ++ (num t.ops.length ++ (t.ops.take (k + 1)).flatMap opB)))))) := by
        show WS _ _ _ _ _ _ _ _
        have h := HS11.out
        rw [HSN.out, HOB.out]
        unfold textB
        rw [← HHL.out] at h
        simpa [nums, List.append_assoc] using h
      clear hw11 HK11 HK10 c3
      go_wp2_with fail
      go_roundw
      case rel => exact ⟨k + 1, v11, by omega, by go_num, HX⟩
      case measure => simp [intOf]; omega
    · have HTK : Hid (t.ops.take k = t.ops) := List.take_of_length_le (by omega)
      have hw := HW.out.wro
      rw [HTK.out, ← HTB.out] at hw
      have HW2 := Lib.hid hw
      clear hw
      go_wp2_with fail
      go_end0
      exact ⟨rfl, _, HW2.out⟩
end Go.Proofs.Ytakbjjohfcgaoaa
