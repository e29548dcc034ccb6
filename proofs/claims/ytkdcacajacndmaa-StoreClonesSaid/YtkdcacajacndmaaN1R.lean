/- A node that is too full is parted. Conditions: as the tree's shape has them. -/
import Derived.Test.YtkdcacajacndmaaB10
import Derived.Test.YtkdcacajacndmaaP1
import Derived.Test.YtkdcacajacndmaaB2R

namespace Go.Proofs.Ytkdcacajacndmaa
open Go.RowKit

theorem Hd.lies_mk {I : Type} {κ : TK I} {w : World} {g c e n m : Nat} {A B : Option Addr} {xs : List I} {ps : List Nat} {ys zs : List Value} (h1 : Bk w g κ.NT #[.slice A n c, .slice B m e]) (h2 : RowW w 0 κ.IT κ.size (.slice A n c) n ys) (h3 : RowW w 0 κ.PT 1 (.slice B m e) m zs)
    (hn : n = xs.length) (hm : m = ps.length) (hy : ys = κ.its xs) (hz : zs = ps.map ptr) : (Hd.mk g A c B e xs).lies κ w ps := by
  subst hn hm hy hz
  exact ⟨h1, h2, h3⟩
/-- what an Insert leaves, told from a world ahead of it. -/
def InsQ (w6 : World) (T : TypeId) (size : Nat) (A : Option Addr) (n : Nat) (ys : List Value) (en : Ending) (w8 : World) : Prop :=
  ∃ A' c', en = .returned (.slice A' (n + 1) c') ∧ RowW w8 0 T size (.slice A' (n + 1) c') (n + 1) ys ∧ Fr (ablk A) w6 w8 ∧ ∀ k, ablk A' k → ablk A k ∨ w6.heap.size ≤ k
theorem InsPost.from_ {w6 W w' : World} {T : TypeId} {size n c : Nat} {A : Option Addr} {ys : List Value} {e : Ending} (h : InsPost W 0 T size (.slice A n c) n ys e w') (hf : Fr NoBlk w6 W) : InsQ w6 T size A n ys e w' := by
  obtain ⟨A', c', rfl, h1, h2, h3⟩ := h
  refine ⟨A', c', rfl, h1, (hf.mono fun _ _ h => h.elim).step h2 fun k _ hk => own_ablk hk, fun k hk => ?_⟩
  rw [ablk_own hk] at h3
  rcases h3 with h3 | h3
  · exact .inl (own_ablk h3.symm)
  · injection h3 with h3
    exact .inr (h3 ▸ hf.size)
theorem RowW.addr {w : World} {base : Nat} {e : TypeId} {size n c : Nat} {A : Option Addr} {xs : List Value} (h : RowW w base e size (.slice A n c) n xs) (hn : 0 < n) : ∃ g, A = some ⟨g, 0, none⟩ := by
  rcases h.2.2 with ⟨_, rfl⟩ | ⟨g, cap, cur, hv, _⟩
  · cases hn
  · injection hv with hv
    exact ⟨g, hv⟩
theorem RowW.at_ {w : World} {base : Nat} {e : TypeId} {size n c g : Nat} {xs : List Value} (h : RowW w base e size (.slice (some ⟨g, 0, none⟩) n c) n xs) {k : Nat} {v : Value} (hk : xs[k]? = some v) : w.cell? ⟨g, k, none⟩ = some v := by
  obtain ⟨b, o, he, hc⟩ := h.rd.at_ hk
  injection he with he
  injection he with e1 e2
  subst e1 e2
  rw [Nat.zero_add] at hc
  exact hc
theorem RowW.cellP {w : World} {base : Nat} {e : TypeId} {n c g : Nat} {ps : List Nat} (h : RowW w base e 1 (.slice (some ⟨g, 0, none⟩) n c) n (ps.map ptr)) {k p : Nat} (hk : ps[k]? = some p) : w.cell? ⟨g, k, none⟩ = some (.pointer (some ⟨p, 0, none⟩)) :=
  h.at_ (by rw [List.getElem?_map, hk]; rfl)
theorem RowW.blk {w : World} {base : Nat} {e : TypeId} {size n c g : Nat} {xs : List Value} (h : RowW w base e size (.slice (some ⟨g, 0, none⟩) n c) n xs) : ∃ cur, Bk w g e cur := by
  rcases h.2.2 with ⟨hv, _⟩ | ⟨g', cap, cur, hv, _, hg, _⟩
  · cases hv
  · injection hv with hv
    injection hv with hv
    injection hv with hv
    subst hv
    exact ⟨cur, hg⟩
theorem RowW.blk' {w : World} {base : Nat} {e : TypeId} {size n c : Nat} {A : Option Addr} {xs : List Value} (h : RowW w base e size (.slice A n c) n xs) {g : Nat} (hg : (Value.slice A n c).ownBlock = some g) : ∃ cur, Bk w g e cur := by
  rcases h.2.2 with ⟨hv, _⟩ | ⟨g', cap, cur, hv, _, hb, _⟩
  · rw [hv] at hg; cases hg
  · rw [hv] at hg
    have : g' = g := by simpa [Value.ownBlock] using hg
    exact ⟨cur, this ▸ hb⟩
theorem RowW.ne_ {w : World} {base : Nat} {e t : TypeId} {size n c g : Nat} {A : Option Addr} {xs : List Value} {cs : Array Value} (h : RowW w base e size (.slice A n c) n xs) (hg : Bk w g t cs) (hne : t ≠ e) : ¬ ablk A g := fun hA => by
  obtain ⟨cur, h1⟩ := h.blk' (ablk_own hA)
  exact hg.apart h1 hne rfl
theorem RowW.cellR {w : World} {base : Nat} {e : TypeId} {n c g : Nat} {xs : List ItR} (h : RowW w base e 5 (.slice (some ⟨g, 0, none⟩) n c) n (itsR xs)) {k : Nat} {x : ItR} (hk : xs[k]? = some x) : w.cell? ⟨g, k * 5, none⟩ = some (.string (bstr x.1)) ∧ w.cell? ⟨g, k * 5 + 1, none⟩ = some (.bool x.2.has) ∧ w.cell? ⟨g, k * 5 + 2, none⟩ = some (.slice x.2.va x.2.vn x.2.vc) ∧ w.cell? ⟨g, k * 5 + 3, none⟩ = some (.int .i64 x.2.home) ∧ w.cell? ⟨g, k * 5 + 4, none⟩ = some (.int .u64 (x.2.count : Int)) :=
  ⟨h.at_ (itsR_get xs k x hk 0 (by omega)), h.at_ (itsR_get xs k x hk 1 (by omega)), h.at_ (itsR_get xs k x hk 2 (by omega)), h.at_ (itsR_get xs k x hk 3 (by omega)), h.at_ (itsR_get xs k x hk 4 (by omega))⟩
theorem itsR_take (xs : List ItR) (k : Nat) : itsR (xs.take k) = (itsR xs).take (k * 5) := by
  induction xs generalizing k with
  | nil => simp [itsR]
  | cons x t ih =>
    cases k with
    | zero => simp [itsR]
    | succ k =>
      show itcR x ++ itsR (t.take k) = (itcR x ++ itsR t).take ((k + 1) * 5)
      rw [ih k, show (k + 1) * 5 = (itcR x).length + k * 5 by show _ = 5 + k * 5; omega, List.take_length_add_append]
theorem itsR_drop (xs : List ItR) (k : Nat) : itsR (xs.drop k) = (itsR xs).drop (k * 5) := by
  induction xs generalizing k with
  | nil => simp [itsR]
  | cons x t ih =>
    cases k with
    | zero => simp
    | succ k =>
      show itsR (t.drop k) = (itcR x ++ itsR t).drop ((k + 1) * 5)
      rw [ih k, show (k + 1) * 5 = (itcR x).length + k * 5 by show _ = 5 + k * 5; omega, List.drop_length_add_append]
def tkR : TK ItR := ⟨102, 124, 98, 5, itsR⟩
def PartRPost (w : World) (h k : Hd ItR) (ps qs : List Nat) (i : Nat) (e : Ending) (w' : World) : Prop :=
  (∃ v, e = .returned v) ∧ ∃ (h' l r : Hd ItR) (m : ItR), k.xs[8]? = some m ∧ h'.xs = h.xs.take i ++ m :: h.xs.drop i ∧ l.xs = k.xs.take 8 ∧ r.xs = k.xs.drop 9 ∧
    h'.lies tkR w' (ps.take (i + 1) ++ r.g :: ps.drop (i + 1)) ∧ l.lies tkR w' (qs.take 9) ∧ r.lies tkR w' (qs.drop 9) ∧ h'.g = h.g ∧ l.g = k.g ∧
    (∀ b, h'.own b → h.own b ∨ w.heap.size ≤ b) ∧ (∀ b, l.own b → k.own b) ∧ (∀ b, r.own b → w.heap.size ≤ b) ∧ Dj h'.own r.own ∧ Fr (fun b => h.own b ∨ k.own b) w w'
set_option maxRecDepth 100000 in
set_option maxHeartbeats 4000000 in
theorem partR_any (w : World) (h k : Hd ItR) (ps qs : List Nat) (i : Nat) (hh : h.lies tkR w ps) (hk : k.lies tkR w qs) (hi : ps[i]? = some k.g) (hin : i ≤ h.xs.length) (hn : h.xs.length ≤ 100) (hps : ps.length ≤ 100) (h17 : k.xs.length = 17) (hq : qs.length = 0 ∨ qs.length = 18) (dj : Dj h.own k.own) :
    Calls Try.prog 81 #[.pointer (some ⟨h.g, 0, none⟩), .int .i64 i] w (PartRPost w h k ps qs i) := by
  obtain ⟨hg, hA, hc, hB, he, hxs⟩ := h
  obtain ⟨kg, kA, kc, kB, ke, kxs⟩ := k
  dsimp only at hi hin hn h17
  obtain ⟨b1, b2, b3⟩ := hh
  obtain ⟨d1, d2, d3⟩ := hk
  unfold tkR at b1 b2 b3 d1 d2 d3
  dsimp only at b1 b2 b3 d1 d2 d3
  rw [h17] at d1 d2
  obtain ⟨n, hnn⟩ : ∃ n, n = hxs.length := ⟨_, rfl⟩
  obtain ⟨np, hnp⟩ : ∃ np, np = ps.length := ⟨_, rfl⟩
  obtain ⟨nq, hnq⟩ : ∃ nq, nq = qs.length := ⟨_, rfl⟩
  rw [← hnn] at b1 b2
  rw [← hnp] at b1 b3
  rw [← hnq] at d1 d3
  -- the children's row, and the full child's items
  have hinp : i < np := by rw [hnp]; exact (List.getElem?_eq_some_iff.1 hi).1
  obtain ⟨pb, rfl⟩ := b3.addr (by omega)
  obtain ⟨kb, rfl⟩ := d2.addr (by omega)
  obtain ⟨m, hm⟩ : ∃ m, kxs[8]? = some m := ⟨_, List.getElem?_eq_getElem (by omega)⟩
  obtain ⟨mk, mv⟩ := m
  have pc : w.cell? ⟨pb, i, none⟩ = some (.pointer (some ⟨kg, 0, none⟩)) := b3.cellP (ps := ps) hi
  have c0 : w.cell? ⟨kb, 40, none⟩ = some (.string (bstr mk)) := (d2.cellR hm).1
  have c1 : w.cell? ⟨kb, 41, none⟩ = some (.bool mv.has) := (d2.cellR hm).2.1
  have c1x1 : w.cell? ⟨kb, 42, none⟩ = some (.slice mv.va mv.vn mv.vc) := (d2.cellR hm).2.2.1
  have c1x2 : w.cell? ⟨kb, 43, none⟩ = some (.int .i64 mv.home) := (d2.cellR hm).2.2.2.1
  have c1x3 : w.cell? ⟨kb, 44, none⟩ = some (.int .u64 (mv.count : Int)) := (d2.cellR hm).2.2.2.2
  have c3 : w.cell? ⟨hg, 1, none⟩ = some (.slice (some ⟨pb, 0, none⟩) np he) := b1.cell 1
  have c4 : w.cell? ⟨kg, 0, none⟩ = some (.slice (some ⟨kb, 0, none⟩) 17 kc) := d1.cell 0
  obtain ⟨W2, hW2⟩ : ∃ W2, W2 = (w.alloc (.cells #[.string (bstr mk), .bool mv.has, .slice mv.va mv.vn mv.vc, .int .i64 mv.home, .int .u64 (mv.count : Int)] 124)).alloc (.cells #[.slice none 0 0, .slice none 0 0] 102) := ⟨_, rfl⟩
  have HF2 : Hid (Fr NoBlk w W2) := by show Fr _ _ _; rw [hW2]; exact ((Fr.refl _ _).alloc _).alloc _
  have HZ2 : Hid (W2.heap.size = w.heap.size + 2) := by show _ = _; rw [hW2]; simp
  have HMB2 : Hid (Bk W2 w.heap.size 124 #[.string (bstr mk), .bool mv.has, .slice mv.va mv.vn mv.vc, .int .i64 mv.home, .int .u64 (mv.count : Int)]) := by show Bk _ _ _ _; rw [hW2]; exact (Bk.new w _ _).alloc _
  have HR2 : Hid (Bk W2 (w.heap.size + 1) 102 #[.slice none 0 0, .slice none 0 0]) := by show Bk _ _ _ _; rw [hW2]; have := Bk.new (w.alloc (.cells #[.string (bstr mk), .bool mv.has, .slice mv.va mv.vn mv.vc, .int .i64 mv.home, .int .u64 (mv.count : Int)] 124)) 102 #[.slice none 0 0, .slice none 0 0]; rw [World.size_alloc] at this; exact this
  obtain ⟨C, hC⟩ : ∃ C, C = (Hd.mk kg (some ⟨kb, 0, none⟩) kc kB ke kxs).own := ⟨_, rfl⟩
  have CS : Hid (C kg ∧ C kb ∧ ∀ b, ablk kB b → C b) := by
    show _ ∧ _
    rw [hC]
    exact ⟨.inl rfl, .inr (.inl ⟨_, rfl, rfl⟩), fun b h => .inr (.inr h)⟩
  have HCC := Lib.hid hC
  have DJ := Lib.hid dj
  have HH : Hid ((Hd.mk hg hA hc (some ⟨pb, 0, none⟩) he hxs).lies tkR w ps) := Hd.lies_mk b1 b2 b3 hnn hnp rfl rfl
  have D1 := Lib.hid d1
  have D2 := Lib.hid d2
  have D3 := Lib.hid d3
  have HM := Lib.hid hm
  have HNN := Lib.hid hnn
  have HNP := Lib.hid hnp
  have HNQ := Lib.hid hnq
  have HQ := Lib.hid hq
  have H17 := Lib.hid h17
  have HI := Lib.hid hi
  have HLT := Lib.hid d1.lt
  have c5 : ((w.alloc (.cells #[.string (bstr mk), .bool mv.has, .slice mv.va mv.vn mv.vc, .int .i64 mv.home, .int .u64 (mv.count : Int)] 124)).alloc (.cells #[.slice none 0 0, .slice none 0 0] 102)).cell? ⟨kg, 0, none⟩ = some (.slice (some ⟨kb, 0, none⟩) 17 kc) := by rw [← hW2]; exact (D1.out.fr HF2.out fun h => h).cell 0
  have HCUT := Lib.hid (cutIR_any W2 0 kb 17 kc 8 9 (itsR kxs) (D2.out.fr HF2.out fun _ _ h => h) (by omega) (by omega) (by omega) (by omega))
  clear b1 b2 b3 d1 d2 d3 dj hm hnn hnp hnq hq h17 hi hC
  go_enter Try.func81, Try.ntmps81
  go_wp2_with fail
  rw [← hW2]
  refine HCUT.out.mono ?_
  clear HCUT c5
  rintro e w3 ⟨q, rfl, hq0, r1, r2, hf⟩
  have HQ0 := Lib.hid hq0
  have HF3 : Hid (Fr C w w3) := (HF2.out.mono fun _ _ h => h.elim).step hf fun b _ e => e ▸ CS.out.2.1
  have hkne : kg ≠ kb := by obtain ⟨cur, h1⟩ := D2.out.blk; exact D1.out.apart h1 (by decide)
  have hkb : kb < w.heap.size := by obtain ⟨cur, h1⟩ := D2.out.blk; exact h1.lt
  have HD3 : Hid (Bk w3 kg 102 #[.slice (some ⟨kb, 0, none⟩) 17 kc, .slice kB nq ke]) := (D1.out.fr HF2.out fun h => h).fr hf hkne
  have HR3 : Hid (Bk w3 (w.heap.size + 1) 102 #[.slice none 0 0, .slice none 0 0]) := HR2.out.fr hf (by omega)
  have HMB3 : Hid (Bk w3 w.heap.size 124 #[.string (bstr mk), .bool mv.has, .slice mv.va mv.vn mv.vc, .int .i64 mv.home, .int .u64 (mv.count : Int)]) := HMB2.out.fr hf (by omega)
  obtain ⟨W4, hW4⟩ : ∃ W4, W4 = (w3.setCell ⟨kg, 0, none⟩ (.slice (some ⟨kb, 0, none⟩) 8 8)).setCell ⟨w.heap.size + 1, 0, none⟩ (.slice (some ⟨q, 0, none⟩) 8 8) := ⟨_, rfl⟩
  have hf34 : Fr (fun b => b = kg ∨ b = w.heap.size + 1) w3 W4 := by rw [hW4]; exact ((Fr.refl _ _).setCell (p := ⟨kg, 0, none⟩) (fun _ => .inl rfl) _).setCell (p := ⟨w.heap.size + 1, 0, none⟩) (fun _ => .inr rfl) _
  have hkgl := HLT.out
  have HD4 : Hid (Bk W4 kg 102 #[.slice (some ⟨kb, 0, none⟩) 8 8, .slice kB nq ke]) := by
    show Bk _ _ _ _; rw [hW4]; exact (HD3.out.put 0 _).far (p := ⟨w.heap.size + 1, 0, none⟩) (by show kg ≠ w.heap.size + 1; omega) _
  have HR4 : Hid (Bk W4 (w.heap.size + 1) 102 #[.slice (some ⟨q, 0, none⟩) 8 8, .slice none 0 0]) := by
    show Bk _ _ _ _; rw [hW4]; exact (HR3.out.far (p := ⟨kg, 0, none⟩) (by show w.heap.size + 1 ≠ kg; omega) _).put 0 _
  have HF4 : Hid (Fr C w W4) := HF3.out.step hf34 fun b hb e => by rcases e with rfl | rfl; exact CS.out.1; omega
  have hz2 := HZ2.out
  have hqne : q ≠ w.heap.size + 1 := by omega
  have R14 : Hid (RowW W4 0 124 5 (.slice (some ⟨kb, 0, none⟩) 8 8) 8 ((itsR kxs).take (8 * 5))) := r1.fr hf34 fun k hk e => by injection hk with hk; have hk2 : kb = k := hk; rcases e with e | e <;> omega
  have R24 : Hid (RowW W4 0 124 5 (.slice (some ⟨q, 0, none⟩) 8 8) 8 ((itsR kxs).drop (9 * 5))) := (r2.fr hf34 fun k hk e => by injection hk with hk; have : q = k := hk; rcases e with e | e; omega; omega).low (Nat.zero_le _)
  have D34 : Hid (RowW W4 0 98 1 (.slice kB nq ke) nq (qs.map ptr)) := ((D3.out.fr HF2.out fun _ _ h => h).fr hf fun k hk e => by
      obtain ⟨cur, h1⟩ := D2.out.blk
      obtain ⟨cur2, h2⟩ := D3.out.blk' hk
      exact h2.apart h1 (by decide) e).fr hf34 fun k hk e => by
      obtain ⟨cur2, h2⟩ := D3.out.blk' hk
      rcases e with e | e
      · exact h2.apart D1.out (by decide) e
      · have := h2.lt; omega
  have HMB4 : Hid (Bk W4 w.heap.size 124 #[.string (bstr mk), .bool mv.has, .slice mv.va mv.vn mv.vc, .int .i64 mv.home, .int .u64 (mv.count : Int)]) := HMB3.out.fr hf34 (by omega)
  have c6 : w3.cell? ⟨kg, 0, none⟩ = some (.slice (some ⟨kb, 0, none⟩) 17 kc) := HD3.out.cell 0
  have f6 := HD3.out.free 0
  have c7 : (w3.setCell ⟨kg, 0, none⟩ (.slice (some ⟨kb, 0, none⟩) 8 8)).cell? ⟨w.heap.size + 1, 0, none⟩ = some (.slice none 0 0) := (HR3.out.far (p := ⟨kg, 0, none⟩) (by show w.heap.size + 1 ≠ kg; omega) _).cell 0
  have f7 := HR3.out.free 0
  have HKS := Lib.hid (And.intro hkne hkb)
  clear hq0 r1 r2 hf hf34 hkgl hkne hkb hz2 hqne
  have HLF := Lib.hid (leafR_any W4 kg _ 8 8 kB nq ke HD4.out)
  rcases HQ.out with h0 | h18
  · obtain rfl : nq = 0 := HNQ.out.trans h0
    have HLF0 : Hid (Calls Try.prog 72 #[.pointer (some ⟨kg, 0, none⟩)] W4 fun en w' => en = .returned (.bool true) ∧ W4 = w') := HLF.out
    clear HLF
    go_wp2_with fail
    rw [← hW4]
    clear hW4 c6 c7 f6 f7
    refine HLF0.out.mono ?_
    rintro e w5 ⟨rfl, rfl⟩
    have HL : Hid (∃ l : Hd ItR, l.lies tkR W4 (qs.take 9) ∧ l.g = kg ∧ l.xs = kxs.take 8 ∧ ∀ b, l.own b → C b) := by
      refine ⟨⟨kg, some ⟨kb, 0, none⟩, 8, kB, ke, kxs.take 8⟩, Hd.lies_mk HD4.out R14.out D34.out (by rw [List.length_take, H17.out]; rfl) (by rw [List.length_take, ← HNQ.out]; rfl) (itsR_take _ _).symm (by rw [List.eq_nil_of_length_eq_zero h0]; rfl), rfl, rfl, fun b hb => ?_⟩
      rcases hb with rfl | ⟨_, h, rfl⟩ | hb
      · exact CS.out.1
      · injection h with h; subst h; exact CS.out.2.1
      · exact CS.out.2.2 b hb
    have HR : Hid (∃ r : Hd ItR, r.lies tkR W4 (qs.drop 9) ∧ r.g = w.heap.size + 1 ∧ r.xs = kxs.drop 9 ∧ ∀ b, r.own b → w.heap.size < b) := by
      refine ⟨⟨w.heap.size + 1, some ⟨q, 0, none⟩, 8, none, 0, kxs.drop 9⟩, Hd.lies_mk HR4.out R24.out (RowW.nil _ _ _ _) (by rw [List.length_drop, H17.out]) (by rw [List.length_drop, ← HNQ.out]) (itsR_drop _ _).symm (by rw [List.eq_nil_of_length_eq_zero h0]; rfl), rfl, rfl, fun b hb => ?_⟩
      rcases hb with rfl | ⟨_, h, rfl⟩ | ⟨_, h, _⟩
      · exact Nat.lt_succ_self _
      · injection h with h; subst h; have := HQ0.out; have := HZ2.out; show _ < q; omega
      · cases h
    obtain ⟨w6, hw6⟩ : ∃ w6, w6 = W4 := ⟨_, rfl⟩
    rw [← hw6] at HL HR HF4 HMB4 ⊢
    have HF6 := Lib.hid HF4.out
    have HMB6 := Lib.hid HMB4.out
    clear hw6 HF4 HMB4 HD4 HR4 R14 R24 D34
    go_wp2_with fail
    have HLL := Lib.hid HL.out
    have HRR := Lib.hid HR.out
    have HH6 : Hid ((Hd.mk hg hA hc (some ⟨pb, 0, none⟩) he hxs).lies tkR w6 ps) := Hd.lies.fr HH.out HF6.out fun b h1 h2 => by rw [HCC.out] at h2; exact DJ.out b h1 h2
    obtain ⟨b1, b2, b3⟩ := HH6.out
    unfold tkR at b1 b2 b3
    dsimp only at b1 b2 b3
    rw [← HNN.out] at b1 b2
    rw [← HNP.out] at b1 b3
    have B1 := Lib.hid b1
    have B2 := Lib.hid b2
    have B3 := Lib.hid b3
    have c0 : w6.cell? ⟨hg, 0, none⟩ = some (.slice hA n hc) := b1.cell 0
    have c0a : (w6.alloc (.cells #[.string (bstr mk), .bool mv.has, .slice mv.va mv.vn mv.vc, .int .i64 mv.home, .int .u64 (mv.count : Int)] 124)).cell? ⟨hg, 0, none⟩ = some (.slice hA n hc) := (b1.alloc _).cell 0
    have m0 : w6.cell? ⟨w.heap.size, 0, none⟩ = some (.string (bstr mk)) := HMB6.out.cell 0
    have m1 : w6.cell? ⟨w.heap.size, 1, none⟩ = some (.bool mv.has) := HMB6.out.cell 1
    have m1x1 : w6.cell? ⟨w.heap.size, 2, none⟩ = some (.slice mv.va mv.vn mv.vc) := HMB6.out.cell 2
    have m1x2 : w6.cell? ⟨w.heap.size, 3, none⟩ = some (.int .i64 mv.home) := HMB6.out.cell 3
    have m1x3 : w6.cell? ⟨w.heap.size, 4, none⟩ = some (.int .u64 (mv.count : Int)) := HMB6.out.cell 4
    have HINS : Hid (∀ W, Fr NoBlk w6 W → Bk W w6.heap.size 124 #[.string (bstr mk), .bool mv.has, .slice mv.va mv.vn mv.vc, .int .i64 mv.home, .int .u64 (mv.count : Int)] → Calls Try.prog 86 #[.slice hA n hc, .int .i64 i, .slice (some ⟨w6.heap.size, 0, none⟩) 1 1] W (InsQ w6 124 5 hA n ((itsR hxs).take (i * 5) ++ [.string (bstr mk), .bool mv.has, .slice mv.va mv.vn mv.vc, .int .i64 mv.home, .int .u64 (mv.count : Int)] ++ (itsR hxs).drop (i * 5)))) := fun W hf hb =>
      (insIR_any W 0 hA n hc i (itsR hxs) (B2.out.fr hf fun _ _ h => h) (Nat.zero_le _) (by rw [HNN.out]; exact hin) (by rw [HNN.out]; omega) w6.heap.size #[.string (bstr mk), .bool mv.has, .slice mv.va mv.vn mv.vc, .int .i64 mv.home, .int .u64 (mv.count : Int)] hb rfl (by intro u hu; simp only [List.mem_cons, List.not_mem_nil, or_false] at hu; rcases hu with rfl | rfl | rfl | rfl | rfl <;> rfl) (fun h => by have := (B2.out.lt (ablk_own h)).2; omega)).mono fun e w' h => h.from_ hf
    clear b1 b2 b3 HL HR
    go_region_with (refine (HINS.out _ ?_ ?_).mono ?_; (first | exact ((Fr.refl _ _).alloc _).drew | exact (Fr.refl _ _).drew.alloc _); (first | exact Bk.fr (Bk.new _ _ _) (Fr.refl NoBlk _).drew (fun h => h) | exact Bk.new _ _ _); rintro e w8 ⟨A8, c8, rfl, hr8, hf8, hb8⟩; have HR8 := Lib.hid hr8; have HF8 := Lib.hid hf8; have HB8 := Lib.hid hb8; clear hr8 hf8 hb8; have HN8 := Lib.hid (B1.out.fr HF8.out (fun h => B2.out.ne_ (B1.out) (by decide) h)); have c8' := HN8.out.cell 0; have f8' := HN8.out.free 0)
    all_goals
      obtain ⟨W9, hW9⟩ : ∃ W9, W9 = w8.setCell ⟨hg, 0, none⟩ (.slice A8 (n + 1) c8) := ⟨_, rfl⟩
      have hf89 : Fr (fun b => b = hg) w8 W9 := by rw [hW9]; exact (Fr.refl (fun b => b = hg) w8).setCell (p := ⟨hg, 0, none⟩) (fun _ => rfl) _
      have hlt8 := HF8.out.size
      have hhl := B1.out.lt
      have hpb := B3.out.lt (k := pb) rfl
      have hgp : hg ≠ pb := fun e => B3.out.ne_ B1.out (by decide) ⟨_, rfl, e.symm⟩
      have hpA : ¬ ablk hA pb := by obtain ⟨cur, h1⟩ := B3.out.blk; exact B2.out.ne_ h1 (by decide)
      have B19 : Hid (Bk W9 hg 102 #[.slice A8 (n + 1) c8, .slice (some ⟨pb, 0, none⟩) np he]) := by show Bk _ _ _ _; rw [hW9]; exact HN8.out.put 0 _
      have B39 : Hid (RowW W9 0 98 1 (.slice (some ⟨pb, 0, none⟩) np he) np (ps.map ptr)) := (B3.out.fr HF8.out fun k hk e => by injection hk with hk; have hk2 : pb = k := hk; subst hk2; exact hpA e).fr hf89 fun k hk e => by injection hk with hk; have hk2 : pb = k := hk; omega
      have hA8 : ¬ ablk A8 hg := fun e => by
        rcases HB8.out _ e with h | h
        · exact B2.out.ne_ B1.out (by decide) h
        · omega
      have B29 : Hid (RowW W9 0 124 5 (.slice A8 (n + 1) c8) (n + 1) ((itsR hxs).take (i * 5) ++ [.string (bstr mk), .bool mv.has, .slice mv.va mv.vn mv.vc, .int .i64 mv.home, .int .u64 (mv.count : Int)] ++ (itsR hxs).drop (i * 5))) := HR8.out.fr hf89 fun k hk e => hA8 (e ▸ own_ablk hk)
      have HF9 : Hid (Fr (fun b => b = hg ∨ ablk hA b) w6 W9) := (HF8.out.mono fun _ _ h => .inr h).step hf89 fun _ _ e => .inl e
      have c1' : W9.cell? ⟨hg, 1, none⟩ = some (.slice (some ⟨pb, 0, none⟩) np he) := B19.out.cell 1
      have hwi : IntKind.i64.wrap ((i : Int) + 1) = ((i + 1 : Nat) : Int) := by rw [IntWalk.i64_in _ (by omega)]; omega
      have HINP := Lib.hid ((insPR_any (W9.alloc (.cells #[.pointer (some ⟨w.heap.size + 1, 0, none⟩)] 98)) 0 (some ⟨pb, 0, none⟩) np he (i + 1) (ps.map ptr) (B39.out.fr ((Fr.refl NoBlk _).alloc _) fun _ _ h => h) (Nat.zero_le _) (by omega) (by rw [HNP.out]; omega) W9.heap.size #[.pointer (some ⟨w.heap.size + 1, 0, none⟩)] (Bk.new _ _ _) rfl (by intro u hu; simp only [List.mem_cons, List.not_mem_nil, or_false] at hu; rcases hu with rfl; rfl) (fun ⟨_, h, e⟩ => by injection h with h; subst h; have e2 : pb = W9.heap.size := e; have := hf89.size; omega)).mono fun e w' h => h.from_ ((Fr.refl NoBlk W9).alloc _))
      clear hf89 hpb hpA hA8
      rw [← hW9]
      clear hW9 c0 c0a m0 m1 m1x3 m1x2 m1x1 c8' f8'
      go_wp2_with fail
      refine HINP.out.mono ?_
      clear HINP
      rintro e w10 ⟨A10, c10, rfl, hr10, hf10, hb10⟩
      have HN10 : Hid (Bk w10 hg 102 #[.slice A8 (n + 1) c8, .slice (some ⟨pb, 0, none⟩) np he]) := B19.out.fr hf10 (fun ⟨_, h, e⟩ => by injection h with h; subst h; exact hgp e.symm)
      have HR10 := Lib.hid hr10
      have HF10 := Lib.hid hf10
      have HB10 := Lib.hid hb10
      clear hr10 hf10 hb10
      have c1'' := HN10.out.cell 1
      have f1'' := HN10.out.free 1
      go_wp2_with fail
      go_end0
      obtain ⟨W11, hW11⟩ : ∃ W11, W11 = w10.setCell ⟨hg, 1, none⟩ (.slice A10 (np + 1) c10) := ⟨_, rfl⟩
      rw [← hW11]
      have hf1011 : Fr (fun b => b = hg) w10 W11 := by rw [hW11]; exact (Fr.refl (fun b => b = hg) w10).setCell (p := ⟨hg, 1, none⟩) (fun _ => rfl) _
      have B111 : Bk W11 hg 102 #[.slice A8 (n + 1) c8, .slice A10 (np + 1) c10] := by rw [hW11]; exact HN10.out.put 1 _
      have hz9 := HF9.out.size
      have hgl : hg < w6.heap.size := Nat.lt_of_lt_of_le B1.out.lt (Nat.le_refl _)
      have B211 : RowW W11 0 124 5 (.slice A8 (n + 1) c8) (n + 1) (itsR (hxs.take i ++ (mk, mv) :: hxs.drop i)) := by
        have h2 := (B29.out.fr HF10.out fun k hk e => by
          obtain ⟨cur, h1⟩ := B39.out.blk
          obtain ⟨_, h, e⟩ := e
          injection h with h
          subst h
          obtain ⟨cur2, h2⟩ := B29.out.blk' hk
          have e2 : pb = k := e
          subst e2
          exact h1.apart h2 (by decide) rfl).fr hf1011 fun k hk e => by
          obtain ⟨cur2, h2⟩ := B29.out.blk' hk
          exact h2.apart B19.out (by decide) e
        rw [itsR_append, itsR_take, show itsR ((mk, mv) :: hxs.drop i) = [.string (bstr mk), .bool mv.has, .slice mv.va mv.vn mv.vc, .int .i64 mv.home, .int .u64 (mv.count : Int)] ++ itsR (hxs.drop i) from rfl, itsR_drop, ← List.append_assoc]
        exact h2
      have hrg : ∀ r : Hd ItR, r.g = w.heap.size + 1 → RowW W11 0 98 1 (.slice A10 (np + 1) c10) (np + 1) ((ps.take (i + 1) ++ r.g :: ps.drop (i + 1)).map ptr) := fun r hr => by
        have h3 := HR10.out.fr hf1011 fun k hk e => by
          subst e
          rcases HB10.out _ (own_ablk hk) with ⟨_, h, e⟩ | h
          · injection h with h; subst h; exact hgp e.symm
          · omega
        rw [hr, List.map_append, List.map_cons, List.map_take, List.map_drop]
        show RowW _ _ _ _ _ _ ((ps.map ptr).take (i + 1) ++ ([ptr (w.heap.size + 1)] ++ (ps.map ptr).drop (i + 1)))
        rw [← List.append_assoc]
        exact h3
      have hF : Fr (Hd.mk hg hA hc (some ⟨pb, 0, none⟩) he hxs).own w6 W11 := ((HF9.out.mono fun b _ h => by rcases h with h | h; exact .inl h; exact .inr (.inl h)).step HF10.out fun b _ h => .inr (.inr h)).step hf1011 fun b _ h => .inl h
      have hnl : n + 1 = (hxs.take i ++ (mk, mv) :: hxs.drop i).length := by rw [HNN.out]; simp only [List.length_append, List.length_cons, List.length_take, List.length_drop]; omega
      obtain ⟨l, HL1, HL2, HL3, HL4⟩ := HLL.out
      obtain ⟨r, HR1, HR2, HR3, HR4⟩ := HRR.out
      have hpl : np + 1 = (ps.take (i + 1) ++ r.g :: ps.drop (i + 1)).length := by rw [HNP.out]; simp only [List.length_append, List.length_cons, List.length_take, List.length_drop]; rw [← HNP.out]; omega
      have hown : ∀ b, (Hd.mk hg A8 c8 A10 c10 (hxs.take i ++ (mk, mv) :: hxs.drop i)).own b → (Hd.mk hg hA hc (some ⟨pb, 0, none⟩) he hxs).own b ∨ w6.heap.size ≤ b := fun b hb => by
        rcases hb with hb | hb | hb
        · exact .inl (.inl hb)
        · rcases HB8.out b hb with h | h
          · exact .inl (.inr (.inl h))
          · exact .inr h
        · rcases HB10.out b hb with h | h
          · exact .inl (.inr (.inr h))
          · exact .inr (by omega)
      refine ⟨⟨_, rfl⟩, ⟨hg, A8, c8, A10, c10, hxs.take i ++ (mk, mv) :: hxs.drop i⟩, l, r, (mk, mv), HM.out, rfl, HL3, HR3, Hd.lies_mk B111 B211 (hrg r HR2) hnl hpl rfl rfl, ?_, ?_, rfl, HL2, fun b hb => ?_, fun b hb => ?_, fun b hb => ?_, fun b h1 h2 => ?_, ?_⟩
      · exact HL1.fr hF fun b h1 h2 => DJ.out b h2 (HCC.out ▸ HL4 b h1)
      · exact HR1.fr hF fun b h1 h2 => by have h3 := HR4 b h1; have h4 := HH.out.lt h2; omega
      · rcases hown b hb with h | h
        · exact .inl h
        · exact .inr (Nat.le_trans HF6.out.size h)
      · exact HCC.out ▸ HL4 b hb
      · have := HR4 b hb; omega
      · have h3 := HR4 b h2
        have h4 := HR1.lt h2
        rcases hown b h1 with h | h
        · have := HH.out.lt h; omega
        · omega
      · exact (HF6.out.mono fun b _ h => .inr (HCC.out ▸ h)).step hF fun b _ h => .inl h
  · obtain rfl : nq = 18 := HNQ.out.trans h18
    have HLF0 : Hid (Calls Try.prog 72 #[.pointer (some ⟨kg, 0, none⟩)] W4 fun en w' => en = .returned (.bool false) ∧ W4 = w') := HLF.out
    clear HLF
    obtain ⟨kd, rfl⟩ := D34.out.addr (by omega)
    have HCUT := Lib.hid (cutPR_any W4 0 kd 18 ke 9 9 (qs.map ptr) D34.out (by omega) (by omega) (by omega) (by omega))
    have c8 : W4.cell? ⟨kg, 1, none⟩ = some (.slice (some ⟨kd, 0, none⟩) 18 ke) := HD4.out.cell 1
    go_wp2_with fail
    rw [← hW4]
    clear hW4 c6 c7 f6 f7
    refine HLF0.out.mono ?_
    rintro e w5 ⟨rfl, rfl⟩
    go_wp2_with fail
    refine HCUT.out.mono ?_
    clear HCUT c8
    rintro e w5 ⟨q2, rfl, hq2, r1, r2, hf⟩
    have hkl := HLT.out
    have hne1 : kg ≠ kd := by obtain ⟨cur, h1⟩ := D34.out.blk; exact HD4.out.apart h1 (by decide)
    have hne2 : w.heap.size + 1 ≠ kd := by obtain ⟨cur, h1⟩ := D34.out.blk; exact HR4.out.apart h1 (by decide)
    have hne3 : kb ≠ kd := by obtain ⟨cur, h1⟩ := D34.out.blk; obtain ⟨cur2, h2⟩ := R14.out.blk; exact h2.apart h1 (by decide)
    have hne4 : q ≠ kd := by obtain ⟨cur, h1⟩ := D34.out.blk; obtain ⟨cur2, h2⟩ := R24.out.blk; exact h2.apart h1 (by decide)
    have hne5 : w.heap.size ≠ kd := by obtain ⟨cur, h1⟩ := D34.out.blk; exact HMB4.out.apart h1 (by decide)
    have hne6 : kg ≠ kb := HKS.out.1
    have hkb := HKS.out.2
    have hz2 := HZ2.out
    have hzq := HQ0.out
    have hz4 := HR4.out.lt
    have HD5 : Hid (Bk w5 kg 102 #[.slice (some ⟨kb, 0, none⟩) 8 8, .slice (some ⟨kd, 0, none⟩) 18 ke]) := HD4.out.fr hf hne1
    have HR5 : Hid (Bk w5 (w.heap.size + 1) 102 #[.slice (some ⟨q, 0, none⟩) 8 8, .slice none 0 0]) := HR4.out.fr hf hne2
    have c8 : w5.cell? ⟨kg, 1, none⟩ = some (.slice (some ⟨kd, 0, none⟩) 18 ke) := HD5.out.cell 1
    have f8 := HD5.out.free 1
    have c9 : (w5.setCell ⟨kg, 1, none⟩ (.slice (some ⟨kd, 0, none⟩) 9 9)).cell? ⟨w.heap.size + 1, 1, none⟩ = some (.slice none 0 0) := (HR5.out.far (p := ⟨kg, 1, none⟩) (by show w.heap.size + 1 ≠ kg; omega) _).cell 1
    have f9 := HR5.out.free 1
    obtain ⟨w6, hw6⟩ : ∃ w6, w6 = (w5.setCell ⟨kg, 1, none⟩ (.slice (some ⟨kd, 0, none⟩) 9 9)).setCell ⟨w.heap.size + 1, 1, none⟩ (.slice (some ⟨q2, 0, none⟩) 9 9) := ⟨_, rfl⟩
    have hf56 : Fr (fun b => b = kg ∨ b = w.heap.size + 1) w5 w6 := by rw [hw6]; exact ((Fr.refl _ _).setCell (p := ⟨kg, 1, none⟩) (fun _ => .inl rfl) _).setCell (p := ⟨w.heap.size + 1, 1, none⟩) (fun _ => .inr rfl) _
    have HD6 : Bk w6 kg 102 #[.slice (some ⟨kb, 0, none⟩) 8 8, .slice (some ⟨kd, 0, none⟩) 9 9] := by
      rw [hw6]; exact (HD5.out.put 1 _).far (p := ⟨w.heap.size + 1, 1, none⟩) (by show kg ≠ w.heap.size + 1; omega) _
    have HR6 : Bk w6 (w.heap.size + 1) 102 #[.slice (some ⟨q, 0, none⟩) 8 8, .slice (some ⟨q2, 0, none⟩) 9 9] := by
      rw [hw6]; exact (HR5.out.far (p := ⟨kg, 1, none⟩) (by show w.heap.size + 1 ≠ kg; omega) _).put 1 _
    have HF6 : Hid (Fr C w w6) := (HF4.out.step hf fun b _ e => e ▸ CS.out.2.2 kd ⟨_, rfl, rfl⟩).step hf56 fun b hb e => by rcases e with rfl | rfl; exact CS.out.1; omega
    have R16 : RowW w6 0 124 5 (.slice (some ⟨kb, 0, none⟩) 8 8) 8 ((itsR kxs).take (8 * 5)) := (R14.out.fr hf fun k hk e => by injection hk with hk; have hk2 : kb = k := hk; omega).fr hf56 fun k hk e => by injection hk with hk; have hk2 : kb = k := hk; rcases e with e | e <;> omega
    have R26 : RowW w6 0 124 5 (.slice (some ⟨q, 0, none⟩) 8 8) 8 ((itsR kxs).drop (9 * 5)) := (R24.out.fr hf fun k hk e => by injection hk with hk; have hk2 : q = k := hk; omega).fr hf56 fun k hk e => by injection hk with hk; have hk2 : q = k := hk; rcases e with e | e <;> omega
    have P16 := r1.fr hf56 fun k hk e => by injection hk with hk; have hk2 : kd = k := hk; rcases e with e | e <;> omega
    have P26 := (r2.fr hf56 fun k hk e => by injection hk with hk; have hk2 : q2 = k := hk; rcases e with e | e <;> omega).low (Nat.zero_le _)
    have HMB6 : Hid (Bk w6 w.heap.size 124 #[.string (bstr mk), .bool mv.has, .slice mv.va mv.vn mv.vc, .int .i64 mv.home, .int .u64 (mv.count : Int)]) := (HMB4.out.fr hf hne5).fr hf56 fun e => by omega
    have HL : Hid (∃ l : Hd ItR, l.lies tkR w6 (qs.take 9) ∧ l.g = kg ∧ l.xs = kxs.take 8 ∧ ∀ b, l.own b → C b) := by
      refine ⟨⟨kg, some ⟨kb, 0, none⟩, 8, some ⟨kd, 0, none⟩, 9, kxs.take 8⟩, Hd.lies_mk HD6 R16 P16 (by rw [List.length_take, H17.out]; rfl) (by rw [List.length_take, ← HNQ.out]; rfl) (itsR_take _ _).symm List.map_take.symm, rfl, rfl, fun b hb => ?_⟩
      rcases hb with rfl | ⟨_, h, rfl⟩ | hb
      · exact CS.out.1
      · injection h with h; subst h; exact CS.out.2.1
      · exact CS.out.2.2 b hb
    have HR : Hid (∃ r : Hd ItR, r.lies tkR w6 (qs.drop 9) ∧ r.g = w.heap.size + 1 ∧ r.xs = kxs.drop 9 ∧ ∀ b, r.own b → w.heap.size < b) := by
      refine ⟨⟨w.heap.size + 1, some ⟨q, 0, none⟩, 8, some ⟨q2, 0, none⟩, 9, kxs.drop 9⟩, Hd.lies_mk HR6 R26 P26 (by rw [List.length_drop, H17.out]) (by rw [List.length_drop, ← HNQ.out]) (itsR_drop _ _).symm List.map_drop.symm, rfl, rfl, fun b hb => ?_⟩
      rcases hb with rfl | ⟨_, h, rfl⟩ | ⟨_, h, rfl⟩
      · exact Nat.lt_succ_self _
      · injection h with h; subst h; show _ < q; omega
      · injection h with h; subst h; show _ < q2; omega
    clear hq2 r1 r2 hf hkl hne1 hne2 hne3 hne4 hne5 hne6 hkb hz2 hzq hz4 HD5 HR5 hf56 HD6 HR6 R16 R26 P16 P26 HF4 HMB4 HD4 HR4 R14 R24 D34
    go_wp2_with fail
    rw [← hw6]
    clear hw6 c8 f8 c9 f9
    have HLL := Lib.hid HL.out
    have HRR := Lib.hid HR.out
    have HH6 : Hid ((Hd.mk hg hA hc (some ⟨pb, 0, none⟩) he hxs).lies tkR w6 ps) := Hd.lies.fr HH.out HF6.out fun b h1 h2 => by rw [HCC.out] at h2; exact DJ.out b h1 h2
    obtain ⟨b1, b2, b3⟩ := HH6.out
    unfold tkR at b1 b2 b3
    dsimp only at b1 b2 b3
    rw [← HNN.out] at b1 b2
    rw [← HNP.out] at b1 b3
    have B1 := Lib.hid b1
    have B2 := Lib.hid b2
    have B3 := Lib.hid b3
    have c0 : w6.cell? ⟨hg, 0, none⟩ = some (.slice hA n hc) := b1.cell 0
    have c0a : (w6.alloc (.cells #[.string (bstr mk), .bool mv.has, .slice mv.va mv.vn mv.vc, .int .i64 mv.home, .int .u64 (mv.count : Int)] 124)).cell? ⟨hg, 0, none⟩ = some (.slice hA n hc) := (b1.alloc _).cell 0
    have m0 : w6.cell? ⟨w.heap.size, 0, none⟩ = some (.string (bstr mk)) := HMB6.out.cell 0
    have m1 : w6.cell? ⟨w.heap.size, 1, none⟩ = some (.bool mv.has) := HMB6.out.cell 1
    have m1x1 : w6.cell? ⟨w.heap.size, 2, none⟩ = some (.slice mv.va mv.vn mv.vc) := HMB6.out.cell 2
    have m1x2 : w6.cell? ⟨w.heap.size, 3, none⟩ = some (.int .i64 mv.home) := HMB6.out.cell 3
    have m1x3 : w6.cell? ⟨w.heap.size, 4, none⟩ = some (.int .u64 (mv.count : Int)) := HMB6.out.cell 4
    have HINS : Hid (∀ W, Fr NoBlk w6 W → Bk W w6.heap.size 124 #[.string (bstr mk), .bool mv.has, .slice mv.va mv.vn mv.vc, .int .i64 mv.home, .int .u64 (mv.count : Int)] → Calls Try.prog 86 #[.slice hA n hc, .int .i64 i, .slice (some ⟨w6.heap.size, 0, none⟩) 1 1] W (InsQ w6 124 5 hA n ((itsR hxs).take (i * 5) ++ [.string (bstr mk), .bool mv.has, .slice mv.va mv.vn mv.vc, .int .i64 mv.home, .int .u64 (mv.count : Int)] ++ (itsR hxs).drop (i * 5)))) := fun W hf hb =>
      (insIR_any W 0 hA n hc i (itsR hxs) (B2.out.fr hf fun _ _ h => h) (Nat.zero_le _) (by rw [HNN.out]; exact hin) (by rw [HNN.out]; omega) w6.heap.size #[.string (bstr mk), .bool mv.has, .slice mv.va mv.vn mv.vc, .int .i64 mv.home, .int .u64 (mv.count : Int)] hb rfl (by intro u hu; simp only [List.mem_cons, List.not_mem_nil, or_false] at hu; rcases hu with rfl | rfl | rfl | rfl | rfl <;> rfl) (fun h => by have := (B2.out.lt (ablk_own h)).2; omega)).mono fun e w' h => h.from_ hf
    clear b1 b2 b3 HL HR
    go_region_with (refine (HINS.out _ ?_ ?_).mono ?_; (first | exact ((Fr.refl _ _).alloc _).drew | exact (Fr.refl _ _).drew.alloc _); (first | exact Bk.fr (Bk.new _ _ _) (Fr.refl NoBlk _).drew (fun h => h) | exact Bk.new _ _ _); rintro e w8 ⟨A8, c8, rfl, hr8, hf8, hb8⟩; have HR8 := Lib.hid hr8; have HF8 := Lib.hid hf8; have HB8 := Lib.hid hb8; clear hr8 hf8 hb8; have HN8 := Lib.hid (B1.out.fr HF8.out (fun h => B2.out.ne_ (B1.out) (by decide) h)); have c8' := HN8.out.cell 0; have f8' := HN8.out.free 0)
    all_goals
      obtain ⟨W9, hW9⟩ : ∃ W9, W9 = w8.setCell ⟨hg, 0, none⟩ (.slice A8 (n + 1) c8) := ⟨_, rfl⟩
      have hf89 : Fr (fun b => b = hg) w8 W9 := by rw [hW9]; exact (Fr.refl (fun b => b = hg) w8).setCell (p := ⟨hg, 0, none⟩) (fun _ => rfl) _
      have hlt8 := HF8.out.size
      have hhl := B1.out.lt
      have hpb := B3.out.lt (k := pb) rfl
      have hgp : hg ≠ pb := fun e => B3.out.ne_ B1.out (by decide) ⟨_, rfl, e.symm⟩
      have hpA : ¬ ablk hA pb := by obtain ⟨cur, h1⟩ := B3.out.blk; exact B2.out.ne_ h1 (by decide)
      have B19 : Hid (Bk W9 hg 102 #[.slice A8 (n + 1) c8, .slice (some ⟨pb, 0, none⟩) np he]) := by show Bk _ _ _ _; rw [hW9]; exact HN8.out.put 0 _
      have B39 : Hid (RowW W9 0 98 1 (.slice (some ⟨pb, 0, none⟩) np he) np (ps.map ptr)) := (B3.out.fr HF8.out fun k hk e => by injection hk with hk; have hk2 : pb = k := hk; subst hk2; exact hpA e).fr hf89 fun k hk e => by injection hk with hk; have hk2 : pb = k := hk; omega
      have hA8 : ¬ ablk A8 hg := fun e => by
        rcases HB8.out _ e with h | h
        · exact B2.out.ne_ B1.out (by decide) h
        · omega
      have B29 : Hid (RowW W9 0 124 5 (.slice A8 (n + 1) c8) (n + 1) ((itsR hxs).take (i * 5) ++ [.string (bstr mk), .bool mv.has, .slice mv.va mv.vn mv.vc, .int .i64 mv.home, .int .u64 (mv.count : Int)] ++ (itsR hxs).drop (i * 5))) := HR8.out.fr hf89 fun k hk e => hA8 (e ▸ own_ablk hk)
      have HF9 : Hid (Fr (fun b => b = hg ∨ ablk hA b) w6 W9) := (HF8.out.mono fun _ _ h => .inr h).step hf89 fun _ _ e => .inl e
      have c1' : W9.cell? ⟨hg, 1, none⟩ = some (.slice (some ⟨pb, 0, none⟩) np he) := B19.out.cell 1
      have hwi : IntKind.i64.wrap ((i : Int) + 1) = ((i + 1 : Nat) : Int) := by rw [IntWalk.i64_in _ (by omega)]; omega
      have HINP := Lib.hid ((insPR_any (W9.alloc (.cells #[.pointer (some ⟨w.heap.size + 1, 0, none⟩)] 98)) 0 (some ⟨pb, 0, none⟩) np he (i + 1) (ps.map ptr) (B39.out.fr ((Fr.refl NoBlk _).alloc _) fun _ _ h => h) (Nat.zero_le _) (by omega) (by rw [HNP.out]; omega) W9.heap.size #[.pointer (some ⟨w.heap.size + 1, 0, none⟩)] (Bk.new _ _ _) rfl (by intro u hu; simp only [List.mem_cons, List.not_mem_nil, or_false] at hu; rcases hu with rfl; rfl) (fun ⟨_, h, e⟩ => by injection h with h; subst h; have e2 : pb = W9.heap.size := e; have := hf89.size; omega)).mono fun e w' h => h.from_ ((Fr.refl NoBlk W9).alloc _))
      clear hf89 hpb hpA hA8
      rw [← hW9]
      clear hW9 c0 c0a m0 m1 m1x3 m1x2 m1x1 c8' f8'
      go_wp2_with fail
      refine HINP.out.mono ?_
      clear HINP
      rintro e w10 ⟨A10, c10, rfl, hr10, hf10, hb10⟩
      have HN10 : Hid (Bk w10 hg 102 #[.slice A8 (n + 1) c8, .slice (some ⟨pb, 0, none⟩) np he]) := B19.out.fr hf10 (fun ⟨_, h, e⟩ => by injection h with h; subst h; exact hgp e.symm)
      have HR10 := Lib.hid hr10
      have HF10 := Lib.hid hf10
      have HB10 := Lib.hid hb10
      clear hr10 hf10 hb10
      have c1'' := HN10.out.cell 1
      have f1'' := HN10.out.free 1
      go_wp2_with fail
      go_end0
      obtain ⟨W11, hW11⟩ : ∃ W11, W11 = w10.setCell ⟨hg, 1, none⟩ (.slice A10 (np + 1) c10) := ⟨_, rfl⟩
      rw [← hW11]
      have hf1011 : Fr (fun b => b = hg) w10 W11 := by rw [hW11]; exact (Fr.refl (fun b => b = hg) w10).setCell (p := ⟨hg, 1, none⟩) (fun _ => rfl) _
      have B111 : Bk W11 hg 102 #[.slice A8 (n + 1) c8, .slice A10 (np + 1) c10] := by rw [hW11]; exact HN10.out.put 1 _
      have hz9 := HF9.out.size
      have hgl : hg < w6.heap.size := Nat.lt_of_lt_of_le B1.out.lt (Nat.le_refl _)
      have B211 : RowW W11 0 124 5 (.slice A8 (n + 1) c8) (n + 1) (itsR (hxs.take i ++ (mk, mv) :: hxs.drop i)) := by
        have h2 := (B29.out.fr HF10.out fun k hk e => by
          obtain ⟨cur, h1⟩ := B39.out.blk
          obtain ⟨_, h, e⟩ := e
          injection h with h
          subst h
          obtain ⟨cur2, h2⟩ := B29.out.blk' hk
          have e2 : pb = k := e
          subst e2
          exact h1.apart h2 (by decide) rfl).fr hf1011 fun k hk e => by
          obtain ⟨cur2, h2⟩ := B29.out.blk' hk
          exact h2.apart B19.out (by decide) e
        rw [itsR_append, itsR_take, show itsR ((mk, mv) :: hxs.drop i) = [.string (bstr mk), .bool mv.has, .slice mv.va mv.vn mv.vc, .int .i64 mv.home, .int .u64 (mv.count : Int)] ++ itsR (hxs.drop i) from rfl, itsR_drop, ← List.append_assoc]
        exact h2
      have hrg : ∀ r : Hd ItR, r.g = w.heap.size + 1 → RowW W11 0 98 1 (.slice A10 (np + 1) c10) (np + 1) ((ps.take (i + 1) ++ r.g :: ps.drop (i + 1)).map ptr) := fun r hr => by
        have h3 := HR10.out.fr hf1011 fun k hk e => by
          subst e
          rcases HB10.out _ (own_ablk hk) with ⟨_, h, e⟩ | h
          · injection h with h; subst h; exact hgp e.symm
          · omega
        rw [hr, List.map_append, List.map_cons, List.map_take, List.map_drop]
        show RowW _ _ _ _ _ _ ((ps.map ptr).take (i + 1) ++ ([ptr (w.heap.size + 1)] ++ (ps.map ptr).drop (i + 1)))
        rw [← List.append_assoc]
        exact h3
      have hF : Fr (Hd.mk hg hA hc (some ⟨pb, 0, none⟩) he hxs).own w6 W11 := ((HF9.out.mono fun b _ h => by rcases h with h | h; exact .inl h; exact .inr (.inl h)).step HF10.out fun b _ h => .inr (.inr h)).step hf1011 fun b _ h => .inl h
      have hnl : n + 1 = (hxs.take i ++ (mk, mv) :: hxs.drop i).length := by rw [HNN.out]; simp only [List.length_append, List.length_cons, List.length_take, List.length_drop]; omega
      obtain ⟨l, HL1, HL2, HL3, HL4⟩ := HLL.out
      obtain ⟨r, HR1, HR2, HR3, HR4⟩ := HRR.out
      have hpl : np + 1 = (ps.take (i + 1) ++ r.g :: ps.drop (i + 1)).length := by rw [HNP.out]; simp only [List.length_append, List.length_cons, List.length_take, List.length_drop]; rw [← HNP.out]; omega
      have hown : ∀ b, (Hd.mk hg A8 c8 A10 c10 (hxs.take i ++ (mk, mv) :: hxs.drop i)).own b → (Hd.mk hg hA hc (some ⟨pb, 0, none⟩) he hxs).own b ∨ w6.heap.size ≤ b := fun b hb => by
        rcases hb with hb | hb | hb
        · exact .inl (.inl hb)
        · rcases HB8.out b hb with h | h
          · exact .inl (.inr (.inl h))
          · exact .inr h
        · rcases HB10.out b hb with h | h
          · exact .inl (.inr (.inr h))
          · exact .inr (by omega)
      refine ⟨⟨_, rfl⟩, ⟨hg, A8, c8, A10, c10, hxs.take i ++ (mk, mv) :: hxs.drop i⟩, l, r, (mk, mv), HM.out, rfl, HL3, HR3, Hd.lies_mk B111 B211 (hrg r HR2) hnl hpl rfl rfl, ?_, ?_, rfl, HL2, fun b hb => ?_, fun b hb => ?_, fun b hb => ?_, fun b h1 h2 => ?_, ?_⟩
      · exact HL1.fr hF fun b h1 h2 => DJ.out b h2 (HCC.out ▸ HL4 b h1)
      · exact HR1.fr hF fun b h1 h2 => by have h3 := HR4 b h1; have h4 := HH.out.lt h2; omega
      · rcases hown b hb with h | h
        · exact .inl h
        · exact .inr (Nat.le_trans HF6.out.size h)
      · exact HCC.out ▸ HL4 b hb
      · have := HR4 b hb; omega
      · have h3 := HR4 b h2
        have h4 := HR1.lt h2
        rcases hown b h1 with h | h
        · have := HH.out.lt h; omega
        · omega
      · exact (HF6.out.mono fun b _ h => .inr (HCC.out ▸ h)).step hF fun b _ h => .inl h
end Go.Proofs.Ytkdcacajacndmaa
