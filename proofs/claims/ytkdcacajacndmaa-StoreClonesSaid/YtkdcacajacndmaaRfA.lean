/- The document's store: it lies there; New, Default, Get. Conditions: keys of at most 10^9 bytes. Pure: how the document's Set goes through its rows. No condition. The document's Set. Conditions: at most 100000 rows. The document's Put, Delete, Move. Conditions: at most 99999 rows; keys and values of at most 10^9 bytes. The document's Move. Conditions: at most 99999 rows; keys of at most 10^9 bytes. The document's Range. Conditions: at most 99999 rows. Pages of rows, each from behind the last one of the page ahead; pure. No condition. Both stores side by side: a store, and the document's, in blocks of their own. No condition. -/
import Derived.Test.YtkdcacajacndmaaStA
import Derived.Test.YtkdcacajacndmaaAppW
import Derived.Test.YtkdcacajacndmaaLstP
import Derived.Test.YtkdcacajacndmaaGa
import Derived.Deep.DeepCutAuto
import Derived.Deep.RegionHeld3
namespace Go.Proofs.Ytkdcacajacndmaa
open Go.RowKit
/-- the document's store in memory: block g, its rows in a row of memory made since B. -/
structure RStIn [Ex] (w : World) (B g n : Nat) (A : Option Addr) (c : Nat) (zs : List Zr) : Prop where
  bk : Bk w g 44 #[.int .i64 (n : Int), .slice A zs.length c]
  own : w.ownsRow B 61 5 (.slice A zs.length c) zs.length (itsR (vz zs))
  rd : ∀ z ∈ zs, Reads w z.2.1 z.2.2
  up : UpI Op.bytesLess (vz zs)
  ge : B ≤ g
  n3 : 1 ≤ n ∧ n ≤ 3
  cnt : ∀ z ∈ zs, z.2.2.count < 2 ^ 64
  lx : ExL w.heap.size
def rsO (g : Nat) (A : Option Addr) (b : Nat) : Prop := b = g ∨ ablk A b
section
variable {w w' : World} {B g n c : Nat} {A : Option Addr} {zs : List Zr} {C : Nat → Prop}
theorem RStIn.frx [Ex] (h : RStIn w B g n A c zs) (hf : Fr C w w') (hn : ∀ b, rsO g A b → ¬ C b) (hb : ∀ k, Byt w k → Ex.x ≠ some k → ¬ C k) : RStIn w' B g n A c zs :=
  ⟨h.bk.fr hf (hn _ (.inl rfl)), own_fr h.own hf fun k hk => hn k (.inr (own_ablk hk)), fun z hz => (h.rd z hz).frx hf hb, h.up, h.ge, h.n3, h.cnt, h.lx.le hf.size⟩
theorem RStIn.fr [Ex] (h : RStIn w B g n A c zs) (hf : Fr C w w') (hn : ∀ b, rsO g A b → ¬ C b) (hb : ∀ k, Byt w k → ¬ C k) : RStIn w' B g n A c zs := h.frx hf hn fun k hk _ => hb k hk
theorem RStIn.nofr [Ex] (h : RStIn w B g n A c zs) (hf : Fr NoBlk w w') : RStIn w' B g n A c zs := h.fr hf (fun _ _ e => e) fun _ _ e => e
theorem RStIn.lt [Ex] (h : RStIn w B g n A c zs) {b : Nat} (hb : rsO g A b) : B ≤ b ∧ b < w.heap.size := by
  rcases hb with rfl | hb
  · exact ⟨h.ge, h.bk.lt⟩
  · exact own_in h.own (ablk_own hb)
theorem RStIn.nb [Ex] (h : RStIn w B g n A c zs) {b : Nat} (hb : rsO g A b) : ¬ Byt w b := fun hy => by
  rcases hb with rfl | hb
  · exact Byt.no h.bk (by decide) hy
  · rcases h.own.2 with ⟨e, _⟩ | ⟨g', cap, cur, e, _, hh, _⟩
    · injection e with e
      subst e
      obtain ⟨_, e, _⟩ := hb
      cases e
    · injection e with e
      subst e
      obtain ⟨_, e, e2⟩ := hb
      injection e with e
      subst e
      have e3 : g' = b := e2
      subst e3
      exact Byt.no (show Bk w g' 61 cur from hh) (by decide) hy
theorem RStIn.nil [Ex] (h : RStIn w B g n A c zs) : A = none → c = 0 := fun e => by
  obtain ⟨A', c', e1, h1, h2⟩ := own_form h.own
  injection e1 with e1 e2 e3
  rw [e3]
  exact h2 (e1 ▸ e)
theorem RStIn.cap [Ex] (h : RStIn w B g n A c zs) : zs.length ≤ c := by
  obtain ⟨A', c', e1, h1, h2⟩ := own_form h.own
  injection e1 with e1 e2 e3
  omega
end
/-- the document's store: O are its blocks, rs its rows. -/
def RSt [Ex] (w : World) (B g : Nat) (O : Nat → Prop) (n : Nat) (rs : List Rw) : Prop := ∃ A c zs, RStIn w B g n A c zs ∧ (∀ b, O b ↔ rsO g A b) ∧ rs = rz zs
section
variable {w w' : World} {B g n : Nat} {O C : Nat → Prop} {rs : List Rw}
theorem RSt.frx [Ex] (h : RSt w B g O n rs) (hf : Fr C w w') (hn : ∀ b, O b → ¬ C b) (hb : ∀ k, Byt w k → Ex.x ≠ some k → ¬ C k) : RSt w' B g O n rs := by
  obtain ⟨A, c, zs, h, hO, e⟩ := h
  exact ⟨A, c, zs, h.frx hf (fun b hb => hn b ((hO b).2 hb)) hb, hO, e⟩
theorem RSt.fr [Ex] (h : RSt w B g O n rs) (hf : Fr C w w') (hn : ∀ b, O b → ¬ C b) (hb : ∀ k, Byt w k → ¬ C k) : RSt w' B g O n rs := h.frx hf hn fun k hk _ => hb k hk
theorem RSt.lx [Ex] (h : RSt w B g O n rs) : ExL w.heap.size := by
  obtain ⟨A, c, zs, h, hO, e⟩ := h
  exact h.lx
theorem RSt.nofr [Ex] (h : RSt w B g O n rs) (hf : Fr NoBlk w w') : RSt w' B g O n rs := h.fr hf (fun _ _ e => e) fun _ _ e => e
theorem RSt.lt [Ex] (h : RSt w B g O n rs) {b : Nat} (hb : O b) : B ≤ b ∧ b < w.heap.size := by
  obtain ⟨A, c, zs, h, hO, e⟩ := h
  exact h.lt ((hO b).1 hb)
theorem RSt.nb [Ex] (h : RSt w B g O n rs) {b : Nat} (hb : O b) : ¬ Byt w b := by
  obtain ⟨A, c, zs, h, hO, e⟩ := h
  exact h.nb ((hO b).1 hb)
theorem RSt.self [Ex] (h : RSt w B g O n rs) : O g := by
  obtain ⟨A, c, zs, h, hO, e⟩ := h
  exact (hO g).2 (.inl rfl)
theorem RSt.up [Ex] (h : RSt w B g O n rs) : UpI Op.bytesLess rs := by
  obtain ⟨A, c, zs, h, hO, e⟩ := h
  rw [e]
  exact rz_up h.up
theorem RSt.cnt [Ex] (h : RSt w B g O n rs) : ∀ x ∈ rs, x.2.count < 2 ^ 64 := by
  obtain ⟨A, c, zs, h, hO, rfl⟩ := h
  intro x hx
  obtain ⟨z, hz, rfl⟩ := List.mem_map.1 hx
  exact h.cnt z hz
end
set_option maxRecDepth 100000 in
theorem rnew_any [Ex] (w : World) (hx : ExL w.heap.size) (n : Nat) (hn : 1 ≤ n ∧ n ≤ 3) :
    Calls Try.prog 13 #[.int .i64 (n : Int)] w fun e w' => ∃ g O, e = .returned (.pointer (some ⟨g, 0, none⟩)) ∧ RSt w' w.heap.size g O n [] ∧ Fr NoBlk w w' := by
  have HF : Hid (Fr NoBlk w (w.alloc (.cells #[.int .i64 (n : Int), .slice none 0 0] 44))) := (Fr.refl _ _).alloc _
  have HB : Hid (Bk (w.alloc (.cells #[.int .i64 (n : Int), .slice none 0 0] 44)) w.heap.size 44 #[.int .i64 (n : Int), .slice none 0 0]) := Bk.new _ _ _
  have HN := Lib.hid hn
  have HX := Lib.hid hx
  clear hn hx
  go_enter Try.func13, Try.ntmps13
  go_wp2_with fail
  go_ret
  exact ⟨w.heap.size, _, rfl, ⟨none, 0, [], ⟨HB.out, World.ownsRow_nil _ _ _ _, (fun z hz => by cases hz), List.Pairwise.nil, Nat.le_refl _, HN.out, fun z hz => (by cases hz), HX.out.le HF.out.size⟩, fun b => Iff.rfl, rfl⟩, HF.out⟩
set_option maxRecDepth 100000 in
set_option maxHeartbeats 400000 in
theorem rdefault_any (w : World) (key : Bs) (n : Int) (hk : key.length ≤ 1000000000) (hn6 : n < 9223372036854775808) :
    Calls Try.prog 21 #[.string (bstr key), .int .i64 n] w fun e w' => e = .returned (.int .i64 (homeOf key n)) ∧ w = w' := by
  by_cases hn : n < 1
  · have HE : Hid (homeOf key n = 0) := if_pos hn
    clear hk
    go_enter Try.func21, Try.ntmps21
    go_wp2_with fail
    go_ret
    exact ⟨by rw [HE.out]; rfl, rfl⟩
  · have HE : Hid (homeOf key n = (sumB key key.length : Int) % n) := by show (if n < 1 then _ else _) = _; rw [if_neg hn, sumB, List.take_length]
    have HN : Hid (¬ n < 1 ∧ n < 9223372036854775808) := ⟨hn, hn6⟩
    have hs : (bstr key).size = key.length := by simp [bstr, ByteArray.size]
    obtain ⟨L, hL⟩ : ∃ L, L = key.length := ⟨_, rfl⟩
    rw [← hL] at hs
    have HL := Lib.hid hL
    have HK : Hid (L ≤ 1000000000) := by show _ ≤ _; rw [hL]; exact hk
    clear hk hL hn6
    go_enter Try.func21, Try.ntmps21
    go_wp2_with fail
    go_loopw [5, 6] (fun s c wr => ∃ k : Nat, s = .int .u64 (sumB key k : Int) ∧ c = .int .i64 (k : Int) ∧ k ≤ L ∧ w = wr) (fun _ c _ => L - (intOf c).toNat)
    case atStart => exact ⟨0, rfl, rfl, Nat.zero_le _, rfl⟩
    case round =>
      obtain ⟨k, rfl, rfl, hk, rfl⟩ := hrel
      by_cases hlt : k < L
      · obtain ⟨x, hx⟩ : ∃ x, key[k]? = some x := ⟨_, List.getElem?_eq_getElem (by rw [← HL.out]; exact hlt)⟩
        have hb : ∀ h : k < (bstr key).size, (bstr key)[k]'h = x := fun h => by
          have h1 : (bstr key).data[k]? = some x := by
            show key.toArray[k]? = some x
            rw [List.getElem?_toArray]
            exact hx
          exact (Array.getElem?_eq_some_iff.1 h1).2
        have HB := Lib.hid hb
        have HW : Hid (((sumB key k : Int) + (x.toNat : Int) % 18446744073709551616) % 18446744073709551616 = ((sumB key (k + 1) : Nat) : Int) ∧ ((sumB key k : Int) + (x.toNat : Int)) % 18446744073709551616 = ((sumB key (k + 1) : Nat) : Int)) := by
          have h1 := sumB_le key (k + 1)
          have h2 := HK.out
          have h3 := x.toNat_lt
          rw [sumB_succ key hx] at h1 ⊢
          exact ⟨by omega, by omega⟩
        clear hx hb
        have hw2 : IntKind.i64.wrap ((k : Int) + 1) = ((k + 1 : Nat) : Int) := by have := HK.out; rw [IntWalk.i64_in _ (by omega)]; omega
        go_wp2_with fail
        go_roundw
        case rel => exact ⟨k + 1, by rw [HB.out]; first | exact congrArg (Value.int .u64) HW.out.1 | exact congrArg (Value.int .u64) HW.out.2 | (rw [HW.out.1]) | (rw [HW.out.2]), by go_num, by omega, trivial⟩
        case measure => simp [intOf]; omega
      · obtain rfl : k = L := by omega
        have HE2 : Hid ((sumB key k : Int) % n = homeOf key n) := by show _ = _; rw [HE.out, ← HL.out]
        have hn0 : (n == 0) = false := beq_eq_false_iff_ne.2 (by have := HN.out.1; omega)
        have hn0' : ¬ n = 0 := by have := HN.out.1; omega
        have hnm : n % 18446744073709551616 = n := by have := HN.out; omega
        have hnm2 : IntKind.u64.wrap n = n := hnm
        have hwr : wrap64 ((sumB key k : Int) % n) = (sumB key k : Int) % n := by
          have h3 := Int.emod_nonneg (sumB key k : Int) (show n ≠ 0 from hn0')
          have h4 := Int.emod_lt_of_pos (sumB key k : Int) (show 0 < n by have := HN.out.1; omega)
          have h5 := HN.out.2
          unfold wrap64
          omega
        have hwr2 : IntKind.i64.wrap ((sumB key k : Int) % n) = (sumB key k : Int) % n := by
          have h3 := Int.emod_nonneg (sumB key k : Int) (show n ≠ 0 from hn0')
          have h4 := Int.emod_lt_of_pos (sumB key k : Int) (show 0 < n by have := HN.out.1; omega)
          have h5 := HN.out.2
          exact IntWalk.i64_in _ (by omega)
        clear HE
        go_wp2_with fail
        go_ret
        refine ⟨?_, rfl⟩
        rw [← HE2.out]
        first | rfl | (simp [hwr]; done)
set_option maxRecDepth 100000 in
set_option maxHeartbeats 1000000 in
theorem rget_any [Ex] (w : World) (B g : Nat) (O : Nat → Prop) (n : Nat) (rs : List Rw) (h : RSt w B g O n rs) (hlen : rs.length ≤ 100000) (key : Bs) (hk : key.length ≤ 1000000000) :
    Calls Try.prog 17 #[.pointer (some ⟨g, 0, none⟩), .string (bstr key)] w (RecPost w (rget n rs key)) := by
  obtain ⟨A, c, zs, hs, hO, rfl⟩ := h
  obtain ⟨q, hq⟩ : ∃ q, q = w.heap.size := ⟨_, rfl⟩
  obtain ⟨w0, hw0⟩ : ∃ w0, w0 = w.alloc (.cells #[.bool false, .slice none 0 0, .int .i64 0, .int .u64 0] 38) := ⟨_, rfl⟩
  have hf0 : Fr NoBlk w w0 := by rw [hw0]; exact (Fr.refl _ _).alloc _
  have HQ0 : Hid (Bk w0 q 38 #[.bool false, .slice none 0 0, .int .i64 0, .int .u64 0]) := by show Bk _ _ _ _; rw [hw0, hq]; exact Bk.new _ _ _
  have HS0 := Lib.hid (hs.nofr hf0)
  have HQ := Lib.hid hq
  have HW0 := Lib.hid hw0
  have HF0 := Lib.hid hf0
  obtain ⟨N, hN⟩ : ∃ N, N = zs.length := ⟨_, rfl⟩
  have HN := Lib.hid hN
  have HK : Hid (key.length ≤ 1000000000 ∧ N ≤ 100000) := ⟨hk, by rw [hN, ← rz_len]; exact hlen⟩
  have c0 : w0.cell? ⟨g, 0, none⟩ = some (.int .i64 (n : Int)) := HS0.out.bk.cell 0
  have c1 : w0.cell? ⟨g, 1, none⟩ = some (.slice A N c) := by rw [hN]; exact HS0.out.bk.cell 1
  clear hs hq hw0 hf0 hk hlen hN hO
  go_enter Try.func17, Try.ntmps17
  go_upto_region 1 with fail
  rw [← HW0.out, ← HQ.out]
  clear HW0
  go_wp2_with fail
  go_loopw [5] (fun z wr => ∃ k : Nat, z = .int .i64 (k : Int) ∧ k ≤ N ∧ Hid (∀ j z, j < k → zs[j]? = some z → z.1 ≠ key) ∧ w0 = wr) (fun z _ => N - (intOf z).toNat)
  case atStart => exact ⟨0, rfl, Nat.zero_le _, (fun j z h => absurd h (by omega)), rfl⟩
  case round =>
    obtain ⟨k, rfl, hk, HL, rfl⟩ := hrel
    have hw2 : IntKind.i64.wrap ((k : Int) + 1) = ((k + 1 : Nat) : Int) := by have := HK.out.2; rw [IntWalk.i64_in _ (by omega)]; omega
    by_cases hlt : k < N
    · obtain ⟨z, hz⟩ : ∃ z, zs[k]? = some z := ⟨_, List.getElem?_eq_getElem (by rw [← HN.out]; exact hlt)⟩
      have hvz : (vz zs)[k]? = some (z.1, z.2.1) := by unfold vz; rw [List.getElem?_map, hz]; rfl
      obtain ⟨b, o, hA, d0, d1, d2, d3, d4⟩ := (Rd.of_ownW HS0.out.own).itR hvz
      subst hA
      have HZ := Lib.hid hz
      clear hz hvz
      obtain ⟨zk, zv, zr⟩ := z
      dsimp only at d0 d1 d2 d3 d4
      by_cases hzk : zk = key
      · have hq := eq_bstr hzk
        have HZK := Lib.hid hzk
        clear hzk
        go_upto_region 5 with fail
        have z0 : w0.cell? ⟨q, 0, none⟩ = some (.bool false) := HQ0.out.cell 0
        have z1 : w0.cell? ⟨q, 1, none⟩ = some (.slice none 0 0) := HQ0.out.cell 1
        have z2 : w0.cell? ⟨q, 2, none⟩ = some (.int .i64 0) := HQ0.out.cell 2
        have z3 : w0.cell? ⟨q, 3, none⟩ = some (.int .u64 0) := HQ0.out.cell 3
        have zf0 := HQ0.out.free 0
        have zf1 := HQ0.out.free 1
        have zf2 := HQ0.out.free 2
        have zf3 := HQ0.out.free 3
        obtain ⟨W4, hW4⟩ : ∃ W, W = ((((w0).setCell ⟨q, 0, none⟩ (.bool zv.has)).setCell ⟨q, 1, none⟩ (.slice zv.va zv.vn zv.vc)).setCell ⟨q, 2, none⟩ (.int .i64 zv.home)).setCell ⟨q, 3, none⟩ (.int .u64 (zv.count : Int)) := ⟨_, rfl⟩
        have hxW4 : Fr (fun k => k = q) w0 W4 := by
          rw [hW4]
          exact ((((Fr.refl (fun k => k = q) w0).setCell (p := ⟨q, 0, none⟩) (fun _ => rfl) _).setCell (p := ⟨q, 1, none⟩) (fun _ => rfl) _).setCell (p := ⟨q, 2, none⟩) (fun _ => rfl) _).setCell (p := ⟨q, 3, none⟩) (fun _ => rfl) _
        have HBW4 : Hid (Bk W4 q 38 #[.bool zv.has, .slice zv.va zv.vn zv.vc, .int .i64 zv.home, .int .u64 (zv.count : Int)]) := by
          show Bk _ _ _ _
          rw [hW4]
          refine Bk.cast (((((HQ0.out).put 0 (.bool zv.has)).put 1 (.slice zv.va zv.vn zv.vc)).put 2 (.int .i64 zv.home)).put 3 (.int .u64 (zv.count : Int))) ?_
          simp only [List.setIfInBounds_toArray, List.set_cons_zero, List.set_cons_succ]
        have HW4 := Lib.hid hW4
        have HX4 := Lib.hid hxW4
        clear hW4 hxW4
        go_wp2_with fail
        rw [← HW4.out]
        clear HW4
        have r0 : W4.cell? ⟨q, 0, none⟩ = some (.bool zv.has) := HBW4.out.cell 0
        have r1 : W4.cell? ⟨q, 1, none⟩ = some (.slice zv.va zv.vn zv.vc) := HBW4.out.cell 1
        have r2 : W4.cell? ⟨q, 2, none⟩ = some (.int .i64 zv.home) := HBW4.out.cell 2
        have r3 : W4.cell? ⟨q, 3, none⟩ = some (.int .u64 (zv.count : Int)) := HBW4.out.cell 3
        refine bodyPost_ret (v := vaR zv) (by rw [results_cellQ rfl]; go_simp; rfl) rfl ?_
        have hm := List.mem_of_getElem? HZ.out
        have hrg : rget n (rz zs) key = zr := rget_yes (rz_up HS0.out.up) (List.mem_map.2 ⟨_, hm, by rw [← HZK.out]⟩)
        refine ⟨zv, rfl, ?_, (HF0.out.mono fun _ _ e => e.elim).step HX4.out fun i hi e => by have := HQ.out; omega⟩
        rw [hrg]
        exact (HS0.out.rd _ hm).fr HX4.out fun k hk e => Byt.no HQ0.out (by decide) (e ▸ hk)
      · have hq := ne_bstr hzk
        have HNX : Hid (∀ j z, j < k + 1 → zs[j]? = some z → z.1 ≠ key) := fun j z hj hz => by
          by_cases e : j = k
          · subst e
            rw [HZ.out] at hz
            injection hz with hz
            subst hz
            exact hzk
          · exact HL.out j z (by omega) hz
        clear hzk
        go_wp2_with fail
        go_roundw
        case rel => exact ⟨k + 1, by go_num, by omega, HNX, trivial⟩
        case measure => simp [intOf]; omega
    · have HNO : Hid (rget n (rz zs) key = ⟨false, [], homeOf key n, 0⟩) := rget_no fun r hr => by
        obtain ⟨z, hz, e⟩ := List.mem_map.1 hr
        obtain ⟨j, hj, rfl⟩ := List.getElem_of_mem hz
        have h1 := HN.out
        exact HL.out j _ (by omega) (List.getElem?_eq_getElem hj) (congrArg (fun p : Rw => p.1) e)
      obtain ⟨hm, hhm⟩ : ∃ hm, hm = homeOf key n := ⟨_, rfl⟩
      have HDF := Lib.hid (rdefault_any w0 key n HK.out.1 (by have := HS0.out.n3; omega))
      rw [← hhm] at HDF
      have HHM := Lib.hid hhm
      obtain ⟨v, hv⟩ : ∃ v : VaR, v = ⟨false, none, 0, 0, hm, 0⟩ := ⟨_, rfl⟩
      have z0 : w0.cell? ⟨q, 0, none⟩ = some (.bool false) := HQ0.out.cell 0
      have z1 : w0.cell? ⟨q, 1, none⟩ = some (.slice none 0 0) := HQ0.out.cell 1
      have z2 : w0.cell? ⟨q, 2, none⟩ = some (.int .i64 0) := HQ0.out.cell 2
      have z3 : w0.cell? ⟨q, 3, none⟩ = some (.int .u64 0) := HQ0.out.cell 3
      have zf0 := HQ0.out.free 0
      have zf1 := HQ0.out.free 1
      have zf2 := HQ0.out.free 2
      have zf3 := HQ0.out.free 3
      obtain ⟨W4, hW4⟩ : ∃ W, W = ((((w0).setCell ⟨q, 0, none⟩ (.bool false)).setCell ⟨q, 1, none⟩ (.slice none 0 0)).setCell ⟨q, 2, none⟩ (.int .i64 hm)).setCell ⟨q, 3, none⟩ (.int .u64 0) := ⟨_, rfl⟩
      have hxW4 : Fr (fun k => k = q) w0 W4 := by
        rw [hW4]
        exact ((((Fr.refl (fun k => k = q) w0).setCell (p := ⟨q, 0, none⟩) (fun _ => rfl) _).setCell (p := ⟨q, 1, none⟩) (fun _ => rfl) _).setCell (p := ⟨q, 2, none⟩) (fun _ => rfl) _).setCell (p := ⟨q, 3, none⟩) (fun _ => rfl) _
      have HBW4 : Hid (Bk W4 q 38 #[.bool v.has, .slice v.va v.vn v.vc, .int .i64 v.home, .int .u64 (v.count : Int)]) := by
        show Bk _ _ _ _
        rw [hW4, hv]
        refine Bk.cast ((((HQ0.out.put 0 (.bool false)).put 1 (.slice none 0 0)).put 2 (.int .i64 hm)).put 3 (.int .u64 0)) ?_
        simp only [List.setIfInBounds_toArray, List.set_cons_zero, List.set_cons_succ]
        rfl
      have HW4 := Lib.hid hW4
      have HX4 := Lib.hid hxW4
      have HV := Lib.hid hv
      clear hhm hW4 hxW4 hv
      go_wp2_with fail
      refine HDF.out.mono ?_
      rintro e w9 ⟨rfl, rfl⟩
      clear HDF
      go_wp2_with fail
      rw [← HW4.out]
      clear HW4
      have r0 : W4.cell? ⟨q, 0, none⟩ = some (.bool v.has) := HBW4.out.cell 0
      have r1 : W4.cell? ⟨q, 1, none⟩ = some (.slice v.va v.vn v.vc) := HBW4.out.cell 1
      have r2 : W4.cell? ⟨q, 2, none⟩ = some (.int .i64 v.home) := HBW4.out.cell 2
      have r3 : W4.cell? ⟨q, 3, none⟩ = some (.int .u64 (v.count : Int)) := HBW4.out.cell 3
      refine bodyPost_ret (v := vaR v) (by rw [results_cellQ rfl]; go_simp; rfl) rfl ?_
      refine ⟨v, rfl, ?_, (HF0.out.mono fun _ _ e => e.elim).step HX4.out fun i hi e => by have := HQ.out; omega⟩
      rw [HNO.out, HV.out, HHM.out]
      exact ⟨rfl, rfl, rfl, rfl, fun _ => rfl, Rd.none_ _ _, fun k hk => by obtain ⟨x, hx, _⟩ := hk; cases hx⟩
theorem RSt.other [Ex] {o : Option Nat} {w w' : World} {B g n : Nat} {O : Nat → Prop} {rs : List Rw} (h : RSt w B g O n rs) (hf : Fr NoBlk w w') (hx : ∀ k, o = some k → w.heap.size ≤ k) (hl : @ExL ⟨o⟩ w'.heap.size) : @RSt ⟨o⟩ w' B g O n rs := by
  obtain ⟨A, c, zs, h, hO, e⟩ := h
  exact ⟨A, c, zs, @RStIn.mk ⟨o⟩ _ _ _ _ _ _ _ (h.bk.fr hf fun e => e) (own_fr h.own hf fun _ _ e => e) (fun z hz => (h.rd z hz).other hf hx) h.up h.ge h.n3 h.cnt hl, hO, e⟩
end Go.Proofs.Ytkdcacajacndmaa

namespace Go.Proofs.Ytkdcacajacndmaa
open Go.RowKit
section
variable {V : Type}
/-- what is gathered behind the rows pre: k tells whether the row for key is still to come. -/
def SetI (key : Bs) (x : V) (keep : Bool) (pre : List (Bs × V)) (k : Bool) (out : List (Bs × V)) : Prop :=
  (k = true ∧ keep = true ∧ (∀ z ∈ pre, Op.bytesLess key z.1 = false) ∧ out = delL Op.bytesLess key pre) ∨
  (k = false ∧ keep = true ∧ (∃ z ∈ pre, Op.bytesLess key z.1 = true) ∧ out = putL Op.bytesLess key x pre) ∨
  (k = false ∧ keep = false ∧ out = delL Op.bytesLess key pre)
theorem SetI.start (key : Bs) (x : V) (keep : Bool) : SetI key x keep [] keep [] := by
  cases keep with
  | true => exact .inl ⟨rfl, rfl, (fun z hz => by cases hz), rfl⟩
  | false => exact .inr (.inr ⟨rfl, rfl, rfl⟩)
theorem del_snoc_eq (key : Bs) (pre : List (Bs × V)) {z : Bs × V} (h : z.1 = key) : delL Op.bytesLess key (pre ++ [z]) = delL Op.bytesLess key pre := by
  unfold delL
  rw [List.filter_append, List.filter_cons, h, less_irrefl]
  simp
theorem del_snoc_ne (key : Bs) (pre : List (Bs × V)) {z : Bs × V} (h : z.1 ≠ key) : delL Op.bytesLess key (pre ++ [z]) = delL Op.bytesLess key pre ++ [z] := by
  unfold delL
  rw [List.filter_append, List.filter_cons]
  have : (Op.bytesLess z.1 key || Op.bytesLess key z.1) = true := by
    cases e1 : Op.bytesLess z.1 key with
    | true => rfl
    | false =>
      cases e2 : Op.bytesLess key z.1 with
      | true => rfl
      | false => exact absurd (less_total e1 e2) h
  rw [this]
  simp
theorem put_gt {key : Bs} {x : V} {pre : List (Bs × V)} (h : ∀ z ∈ pre, Op.bytesLess key z.1 = false) : putL Op.bytesLess key x pre = delL Op.bytesLess key pre ++ [(key, x)] := by
  unfold putL delL
  have e1 : pre.filter (fun p => Op.bytesLess key p.1) = [] := filter_no h
  have e2 : pre.filter (fun p => Op.bytesLess p.1 key) = pre.filter fun p => Op.bytesLess p.1 key || Op.bytesLess key p.1 := List.filter_congr fun z hz => by rw [h z hz, Bool.or_false]
  rw [e1, e2]
theorem put_snoc {key : Bs} {x : V} {pre : List (Bs × V)} {z : Bs × V} (h : Op.bytesLess key z.1 = true) : putL Op.bytesLess key x (pre ++ [z]) = putL Op.bytesLess key x pre ++ [z] := by
  unfold putL
  rw [List.filter_append, List.filter_append, List.filter_cons, List.filter_cons, less_asymm h, h]
  simp
variable {key : Bs} {x : V} {keep k : Bool} {pre out : List (Bs × V)} {z : Bs × V}
/-- the row comes ahead of this one. -/
theorem SetI.ins (h : SetI key x keep pre true out) (hz : Op.bytesLess key z.1 = true) : SetI key x keep (pre ++ [z]) false (out ++ [(key, x)] ++ [z]) := by
  rcases h with ⟨_, h1, h2, h3⟩ | ⟨h, _⟩ | ⟨h, _⟩
  · refine .inr (.inl ⟨rfl, h1, ⟨z, by simp, hz⟩, ?_⟩)
    rw [put_snoc hz, put_gt h2, h3]
  · cases h
  · cases h
/-- nothing is put ahead of it; it is the key's own. -/
theorem SetI.skip (hu : UpI Op.bytesLess (pre ++ [z])) (h : SetI key x keep pre k out) (hz : z.1 = key) : SetI key x keep (pre ++ [z]) k out := by
  rcases h with ⟨h0, h1, h2, h3⟩ | ⟨h0, h1, ⟨y, hy, h2⟩, h3⟩ | ⟨h0, h1, h3⟩
  · refine .inl ⟨h0, h1, fun y hy => ?_, ?_⟩
    · rcases List.mem_append.1 hy with hy | hy
      · exact h2 y hy
      · rw [List.mem_singleton.1 hy, hz, less_irrefl]
    · rw [del_snoc_eq key pre hz, h3]
  · exfalso
    have hp := List.pairwise_append.1 hu
    have h4 := hp.2.2 y hy z (by simp)
    rw [hz] at h4
    rw [less_asymm h2] at h4
    cases h4
  · exact .inr (.inr ⟨h0, h1, by rw [del_snoc_eq key pre hz, h3]⟩)
/-- nothing is put ahead of it; it is another key's. -/
theorem SetI.more (hu : UpI Op.bytesLess (pre ++ [z])) (h : SetI key x keep pre k out) (hk : k = true → Op.bytesLess key z.1 = false) (hz : z.1 ≠ key) : SetI key x keep (pre ++ [z]) k (out ++ [z]) := by
  rcases h with ⟨h0, h1, h2, h3⟩ | ⟨h0, h1, ⟨y, hy, h2⟩, h3⟩ | ⟨h0, h1, h3⟩
  · refine .inl ⟨h0, h1, fun y hy => ?_, ?_⟩
    · rcases List.mem_append.1 hy with hy | hy
      · exact h2 y hy
      · rw [List.mem_singleton.1 hy]; exact hk h0
    · rw [del_snoc_ne key pre hz, h3]
  · have hp := List.pairwise_append.1 hu
    have h4 := less_trans h2 (hp.2.2 y hy z (by simp))
    exact .inr (.inl ⟨h0, h1, ⟨y, by simp [hy], h2⟩, by rw [put_snoc h4, h3]⟩)
  · exact .inr (.inr ⟨h0, h1, by rw [del_snoc_ne key pre hz, h3]⟩)
theorem SetI.done (h : SetI key x keep pre k out) : (if k then out ++ [(key, x)] else out) = if keep then putL Op.bytesLess key x pre else delL Op.bytesLess key pre := by
  rcases h with ⟨rfl, rfl, h2, h3⟩ | ⟨rfl, rfl, _, h3⟩ | ⟨rfl, rfl, h3⟩
  · rw [if_pos rfl, if_pos rfl, put_gt h2, h3]
  · rw [if_neg Bool.false_ne_true, if_pos rfl, h3]
  · rw [if_neg Bool.false_ne_true, if_neg Bool.false_ne_true, h3]
theorem SetI.len (h : SetI key x keep pre k out) : out.length ≤ pre.length + 1 := by
  rcases h with ⟨_, _, _, h3⟩ | ⟨_, _, _, h3⟩ | ⟨_, _, h3⟩
  · rw [h3]; have := delL_le (lt := Op.bytesLess) key (xs := pre); omega
  · rw [h3]; exact putL_le1 linS key x
  · rw [h3]; have := delL_le (lt := Op.bytesLess) key (xs := pre); omega
theorem SetI.mem (h : SetI key x keep pre k out) : ∀ y ∈ out, y = (key, x) ∨ y ∈ pre := fun y hy => by
  rcases h with ⟨_, _, _, h3⟩ | ⟨_, _, _, h3⟩ | ⟨_, _, h3⟩
  · rw [h3] at hy; exact .inr (mem_delL' hy)
  · rw [h3] at hy; exact mem_putL' hy
  · rw [h3] at hy; exact .inr (mem_delL' hy)
end
end Go.Proofs.Ytkdcacajacndmaa

namespace Go.Proofs.Ytkdcacajacndmaa
open Go.RowKit
def RSetPost [Ex] (w : World) (B g n : Nat) (rs : List Rw) (e : Ending) (w' : World) : Prop := (∃ x, e = .returned x) ∧ ∃ O', RSt w' B g O' n rs ∧ Fr (fun b => b = g) w w' ∧ ∀ b, O' b → b = g ∨ w.heap.size ≤ b
/-- the rows told anew. -/
theorem RStIn.told [Ex] {w0 w w' : World} {B g n c c' : Nat} {A A' : Option Addr} {zs out : List Zr} {key : Bs} {v : VaR} {r : Rec} {keep : Bool} (h : RStIn w B g n A c zs) (hf0 : Fr NoBlk w w0) (hf : Fr NoBlk w0 w') (ho : w'.ownsRow w0.heap.size 61 5 (.slice A' out.length c') out.length (itsR (vz out)))
    (hr : Reads w v r) (hc : r.count < 2 ^ 64) (hk : keep = (r.has || r.count != 0)) (he : out = if keep then putL Op.bytesLess key (v, r) zs else delL Op.bytesLess key zs) :
    ∃ O', RSt (w'.setCell ⟨g, 1, none⟩ (.slice A' out.length c')) B g O' n (rset (rz zs) key r) ∧ Fr (fun b => b = g) w (w'.setCell ⟨g, 1, none⟩ (.slice A' out.length c')) ∧ ∀ b, O' b → b = g ∨ w.heap.size ≤ b := by
  have hfs : Fr (fun b => b = g) w' (w'.setCell ⟨g, 1, none⟩ (.slice A' out.length c')) := (Fr.refl (fun b => b = g) w').setCell (p := ⟨g, 1, none⟩) (fun _ => rfl) _
  have hfw := hf0.trans hf
  have hall : Fr (fun b => b = g) w (w'.setCell ⟨g, 1, none⟩ (.slice A' out.length c')) := (hfw.mono fun _ _ e => e.elim).trans hfs
  have hbg := h.bk.lt
  have hB := h.ge
  have hs0 := hf0.size
  have hrow : ∀ k, (Value.slice A' out.length c').ownBlock = some k → w0.heap.size ≤ k := fun k hk => (own_in ho hk).1
  have hnb : ∀ k, Byt w k → ¬ k = g := fun k hk e => Byt.no h.bk (by decide) (e ▸ hk)
  refine ⟨rsO g A', ⟨A', c', out, ⟨?_, own_base (own_fr ho hfs fun k hk e => by have := hrow k hk; omega) (by omega), fun z hz => ?_, ?_, h.ge, h.n3, fun z hz => ?_, h.lx.le hall.size⟩, fun b => Iff.rfl, ?_⟩, hall, fun b hb => ?_⟩
  · have := (h.bk.fr hfw fun e => e).put 1 (.slice A' out.length c')
    simpa using this
  · have hm : z = (key, (v, r)) ∨ z ∈ zs := by
      rw [he] at hz
      split at hz
      · exact mem_putL' hz
      · exact .inr (mem_delL' hz)
    rcases hm with rfl | hm
    · exact hr.fr hall hnb
    · exact (h.rd z hm).fr hall hnb
  · rw [he]
    split
    · rw [vz_put]; exact h.up.put linS
    · rw [vz_del]; exact h.up.del
  · have hm : z = (key, (v, r)) ∨ z ∈ zs := by
      rw [he] at hz
      split at hz
      · exact mem_putL' hz
      · exact .inr (mem_delL' hz)
    rcases hm with rfl | hm
    · exact hc
    · exact h.cnt z hm
  · rw [he]
    unfold rset
    rw [← hk]
    split
    · rw [rz_put]
    · rw [rz_del]
  · rcases hb with rfl | hb
    · exact .inl rfl
    · have := hrow b (ablk_own hb)
      exact .inr (by omega)
structure SetL (w0 wr : World) (A' : Option Addr) (c' m : Nat) (key : Bs) (v : VaR) (r : Rec) (kp : Bool) (pre : List Zr) (kk : Bool) (out : List Zr) : Prop where
  len : m = out.length
  own : wr.ownsRow w0.heap.size 61 5 (.slice A' m c') m (itsR (vz out))
  set : SetI key (v, r) kp pre kk out
  fr : Fr NoBlk w0 wr
set_option maxRecDepth 100000 in
set_option maxHeartbeats 2000000 in
theorem rset_any [Ex] (w : World) (B g : Nat) (O : Nat → Prop) (n : Nat) (rs : List Rw) (h : RSt w B g O n rs) (hlen : rs.length ≤ 99999) (key : Bs) (v : VaR) (r : Rec) (hr : Reads w v r) (hc : r.count < 2 ^ 64) :
    Calls Try.prog 58 #[.pointer (some ⟨g, 0, none⟩), .string (bstr key), vaR v] w (RSetPost w B g n (rset rs key r)) := by
  obtain ⟨A, c, zs, hs, hO, rfl⟩ := h
  obtain ⟨i0, hi, hz0, hz1, hz2⟩ := info_parts rowInfo
  obtain ⟨p, hp⟩ : ∃ p, p = w.heap.size := ⟨_, rfl⟩
  obtain ⟨w0, hw0⟩ : ∃ w0, w0 = w.alloc (.cells #[.bool v.has, .slice v.va v.vn v.vc, .int .i64 v.home, .int .u64 (v.count : Int)] 38) := ⟨_, rfl⟩
  have hf0 : Fr NoBlk w w0 := by rw [hw0]; exact (Fr.refl _ _).alloc _
  have HP0 : Hid (Bk w0 p 38 #[.bool v.has, .slice v.va v.vn v.vc, .int .i64 v.home, .int .u64 (v.count : Int)]) := by show Bk _ _ _ _; rw [hw0, hp]; exact Bk.new _ _ _
  obtain ⟨N, hN⟩ : ∃ N, N = zs.length := ⟨_, rfl⟩
  have HN := Lib.hid hN
  have HSM : Hid (N ≤ 99999) := by show _ ≤ _; rw [hN, ← rz_len]; exact hlen
  have HS := Lib.hid hs
  have HS0 := Lib.hid (hs.nofr hf0)
  have HW0 := Lib.hid hw0
  have HP := Lib.hid hp
  have HF00 := Lib.hid hf0
  have HR := Lib.hid (And.intro hr hc)
  obtain ⟨kp, hkp⟩ : ∃ kp, kp = (v.has || v.count != 0) := ⟨_, rfl⟩
  have HKP : Hid (kp = (r.has || r.count != 0)) := by show _ = _; rw [hkp, hr.has, hr.count]
  have HKV := Lib.hid hkp
  have HUZ : Hid (UpI Op.bytesLess zs) := by
    have h := hs.up
    unfold UpI vz at h
    rw [List.pairwise_map] at h
    exact h
  have hnn := HSM.out
  clear hs hp hw0 hf0 hr hc hlen hN hkp hO
  unfold vaR
  go_enter Try.func58, Try.ntmps58
  go_upto_region 1 with fail
  rw [← HW0.out, ← HP.out]
  clear HW0
  go_cut [6, 7] (fun s f wx => ∃ q, s = .slice (some ⟨q, 0, none⟩) 0 0 ∧ f = .bool kp ∧ Hid (Bk wx q 61 #[] ∧ Fr NoBlk w0 wx ∧ w0.heap.size ≤ q))
  case first =>
    have a0 : w0.cell? ⟨p, 0, none⟩ = some (.bool v.has) := HP0.out.cell 0
    have a1 : w0.cell? ⟨p, 1, none⟩ = some (.slice v.va v.vn v.vc) := HP0.out.cell 1
    have a2 : w0.cell? ⟨p, 2, none⟩ = some (.int .i64 v.home) := HP0.out.cell 2
    have a3 : w0.cell? ⟨p, 3, none⟩ = some (.int .u64 (v.count : Int)) := HP0.out.cell 3
    have ad0 : w0.drew.cell? ⟨p, 0, none⟩ = some (.bool v.has) := (HP0.out.fr (Fr.refl NoBlk _).drew fun e => e).cell 0
    have ad1 : w0.drew.cell? ⟨p, 1, none⟩ = some (.slice v.va v.vn v.vc) := (HP0.out.fr (Fr.refl NoBlk _).drew fun e => e).cell 1
    have ad2 : w0.drew.cell? ⟨p, 2, none⟩ = some (.int .i64 v.home) := (HP0.out.fr (Fr.refl NoBlk _).drew fun e => e).cell 2
    have ad3 : w0.drew.cell? ⟨p, 3, none⟩ = some (.int .u64 (v.count : Int)) := (HP0.out.fr (Fr.refl NoBlk _).drew fun e => e).cell 3
    have HPA : Hid (Bk (w0.alloc (.cells #[] 61)) p 38 #[.bool v.has, .slice v.va v.vn v.vc, .int .i64 v.home, .int .u64 (v.count : Int)]) := HP0.out.alloc _
    have HPB : Hid (Bk (w0.drew.alloc (.cells #[] 61)) p 38 #[.bool v.has, .slice v.va v.vn v.vc, .int .i64 v.home, .int .u64 (v.count : Int)]) := (HP0.out.fr (Fr.refl NoBlk _).drew fun e => e).alloc _
    have HPC : Hid (Bk (w0.alloc (.cells #[] 61)).drew p 38 #[.bool v.has, .slice v.va v.vn v.vc, .int .i64 v.home, .int .u64 (v.count : Int)]) := (HP0.out.alloc _).fr (Fr.refl NoBlk _).drew fun e => e
    have b0 : (w0.alloc (.cells #[] 61)).cell? ⟨p, 0, none⟩ = some (.bool v.has) := HPA.out.cell 0
    have b1 : (w0.alloc (.cells #[] 61)).cell? ⟨p, 1, none⟩ = some (.slice v.va v.vn v.vc) := HPA.out.cell 1
    have b2 : (w0.alloc (.cells #[] 61)).cell? ⟨p, 2, none⟩ = some (.int .i64 v.home) := HPA.out.cell 2
    have b3 : (w0.alloc (.cells #[] 61)).cell? ⟨p, 3, none⟩ = some (.int .u64 (v.count : Int)) := HPA.out.cell 3
    have bd0 : (w0.drew.alloc (.cells #[] 61)).cell? ⟨p, 0, none⟩ = some (.bool v.has) := HPB.out.cell 0
    have bd1 : (w0.drew.alloc (.cells #[] 61)).cell? ⟨p, 1, none⟩ = some (.slice v.va v.vn v.vc) := HPB.out.cell 1
    have bd2 : (w0.drew.alloc (.cells #[] 61)).cell? ⟨p, 2, none⟩ = some (.int .i64 v.home) := HPB.out.cell 2
    have bd3 : (w0.drew.alloc (.cells #[] 61)).cell? ⟨p, 3, none⟩ = some (.int .u64 (v.count : Int)) := HPB.out.cell 3
    have bc0 : (w0.alloc (.cells #[] 61)).drew.cell? ⟨p, 0, none⟩ = some (.bool v.has) := HPC.out.cell 0
    have bc1 : (w0.alloc (.cells #[] 61)).drew.cell? ⟨p, 1, none⟩ = some (.slice v.va v.vn v.vc) := HPC.out.cell 1
    have bc2 : (w0.alloc (.cells #[] 61)).drew.cell? ⟨p, 2, none⟩ = some (.int .i64 v.home) := HPC.out.cell 2
    have bc3 : (w0.alloc (.cells #[] 61)).drew.cell? ⟨p, 3, none⟩ = some (.int .u64 (v.count : Int)) := HPC.out.cell 3
    obtain ⟨vh, va, vn, vc, vm, vt⟩ := v
    dsimp only at *
    cases vh with
    | true =>
      have HK1 : Hid (kp = true) := HKV.out.trans rfl
      go_region
      all_goals
        go_wp2_with fail
        go_meet
        exact ⟨_, rfl, by rw [HK1.out], ⟨by first | exact Bk.new _ _ _ | exact (Bk.new _ _ _).fr (Fr.refl NoBlk _).drew (fun e => e), by first | exact ((Fr.refl _ _).alloc _).drew | exact (Fr.refl _ _).drew.alloc _, Nat.le_refl _⟩⟩
    | false =>
      by_cases hv0 : vt = 0
      · have HK1 : Hid (kp = false) := HKV.out.trans (by rw [hv0]; rfl)
        subst hv0
        go_region
        all_goals
          go_wp2_with fail
          go_meet
          exact ⟨_, rfl, by rw [HK1.out], ⟨by first | exact Bk.new _ _ _ | exact (Bk.new _ _ _).fr (Fr.refl NoBlk _).drew (fun e => e), by first | exact ((Fr.refl _ _).alloc _).drew | exact (Fr.refl _ _).drew.alloc _, Nat.le_refl _⟩⟩
      · have HK1 : Hid (kp = true) := HKV.out.trans (by simp [hv0])
        have hv1 : (0 : Int) < (vt : Int) := by omega
        have hv2 : 0 < vt := by omega
        go_region
        all_goals
          go_wp2_with fail
          go_meet
          exact ⟨_, rfl, by rw [HK1.out], ⟨by first | exact Bk.new _ _ _ | exact (Bk.new _ _ _).fr (Fr.refl NoBlk _).drew (fun e => e), by first | exact ((Fr.refl _ _).alloc _).drew | exact (Fr.refl _ _).drew.alloc _, Nat.le_refl _⟩⟩
  case rest =>
    obtain ⟨q, rfl, rfl, HQ⟩ := hcut
    obtain ⟨w1, rfl⟩ : ∃ w', w' = wc := ⟨_, rfl⟩
    have HI1 : Hid (SetL w0 w1 (some ⟨q, 0, none⟩) 0 0 key v r kp (zs.take 0) kp []) := ⟨rfl, own_litW 5 HQ.out.1 HQ.out.2.2, SetI.start _ _ _, HQ.out.2.1⟩
    clear HQ
    go_wp2_with fail
    go_loopw [6, 7, 8] (fun o f z wr => ∃ (k : Nat) (out : List Zr) (kk : Bool) (A' : Option Addr) (c' m : Nat), o = .slice A' m c' ∧ f = .bool kk ∧ z = .int .i64 (k : Int) ∧ k ≤ N ∧ Hid (SetL w0 wr A' c' m key v r kp (zs.take k) kk out)) (fun _ _ z _ => N - (intOf z).toNat)
    case atStart => exact ⟨0, [], kp, some ⟨q, 0, none⟩, 0, 0, rfl, rfl, rfl, Nat.zero_le _, HI1.out⟩
    case round =>
      obtain ⟨k, out, kk, A', c', m, rfl, rfl, rfl, hk, HI⟩ := hrel
      clear HI1
      have hw2 : IntKind.i64.wrap ((k : Int) + 1) = ((k + 1 : Nat) : Int) := by rw [IntWalk.i64_in _ (by omega)]; omega
      have HMB : Hid (m ≤ 100000) := by
        have h1 := HI.out.set.len
        have h2 := HI.out.len
        rw [List.length_take] at h1
        show m ≤ 100000
        omega
      have HOW : Hid (wr.ownsRow w0.heap.size 61 5 (.slice A' m c') m (itsR (vz out))) := HI.out.own
      have HFR : Hid (Fr NoBlk w0 wr) := HI.out.fr
      have HSW := Lib.hid (HS0.out.nofr HI.out.fr)
      have HPW := Lib.hid (HP0.out.fr HI.out.fr fun e => e)
      have c1 : wr.cell? ⟨g, 1, none⟩ = some (.slice A N c) := by rw [HN.out]; exact HSW.out.bk.cell 1
      by_cases hlt : k < N
      · obtain ⟨z, hz⟩ : ∃ z, zs[k]? = some z := ⟨_, List.getElem?_eq_getElem (by rw [← HN.out]; exact hlt)⟩
        have hvz : (vz zs)[k]? = some (z.1, z.2.1) := by unfold vz; rw [List.getElem?_map, hz]; rfl
        obtain ⟨b, o, hA, d0, d1, d2, d3, d4⟩ := (Rd.of_ownW HSW.out.own).itR hvz
        have HBL : Hid (b < w0.heap.size) := (HS0.out.lt (.inr ⟨_, hA, rfl⟩)).2
        subst hA
        have HTK : Hid (zs.take (k + 1) = zs.take k ++ [z]) := by show _ = _; rw [List.take_add_one, hz]; rfl
        have HUP : Hid (UpI Op.bytesLess (zs.take k ++ [z])) := by show UpI _ _; rw [← HTK.out]; exact HUZ.out.sub (List.take_sublist _ _)
        clear hz hvz
        obtain ⟨zk, zv, zr⟩ := z
        dsimp only at d0 d1 d2 d3 d4
        cases kk with
        | true =>
          cases hc : Op.bytesLess key zk with
          | true =>
            have hq := ne_bstr (show zk ≠ key from fun e => less_ne hc e.symm)
            have hl1 : Op.bytesLess (bstr zk).toList (bstr key).toList = false := by rw [bstr_toList, bstr_toList]; exact less_asymm hc
            have HIN : Hid (SetI key (v, r) kp (zs.take k ++ [(zk, (zv, zr))]) false (out ++ [(key, (v, r))] ++ [(zk, (zv, zr))])) := HI.out.set.ins hc
            clear hc
            have a0 : wr.cell? ⟨p, 0, none⟩ = some (.bool v.has) := HPW.out.cell 0
            have a1 : wr.cell? ⟨p, 1, none⟩ = some (.slice v.va v.vn v.vc) := HPW.out.cell 1
            have a2 : wr.cell? ⟨p, 2, none⟩ = some (.int .i64 v.home) := HPW.out.cell 2
            have a3 : wr.cell? ⟨p, 3, none⟩ = some (.int .u64 (v.count : Int)) := HPW.out.cell 3
            have HOA2 : Hid ((wr.alloc (.cells #[.string (bstr key), .bool v.has, .slice v.va v.vn v.vc, .int .i64 v.home, .int .u64 (v.count : Int)] 61)).ownsRow w0.heap.size 61 5 (.slice A' m c') m (itsR (vz out))) := own_fr HOW.out ((Fr.refl NoBlk _).alloc _) fun _ _ h => h
            have HSA2 : Hid (Rd (wr.alloc (.cells #[.string (bstr key), .bool v.has, .slice v.va v.vn v.vc, .int .i64 v.home, .int .u64 (v.count : Int)] 61)) (some ⟨wr.heap.size, 0, none⟩) (itsR [(key, v)])) := Rd.of_cells (Bk.new wr 61 #[.string (bstr key), .bool v.has, .slice v.va v.vn v.vc, .int .i64 v.home, .int .u64 (v.count : Int)])
            have HZA2 : Hid (w0.heap.size ≤ (wr.alloc (.cells #[.string (bstr key), .bool v.has, .slice v.va v.vn v.vc, .int .i64 v.home, .int .u64 (v.count : Int)] 61)).heap.size) := (HFR.out.alloc _).size
            go_wp2_with (at_builtin; go_loud (refine wpList_appW rfl _ _ 40 rfl w0.heap.size 61 i0 _ 5 64 Try.underlying40 hi hz0 hz1 hz2 rfl (by decide) (.slice A' m c') m (itsR (vz out)) rfl HOA2.out (some ⟨wr.heap.size, 0, none⟩) 1 1 (itsR [(key, v)]) rfl rfl HSA2.out (itsR_one _) (fun e => by cases e) (by unfold maxLen; have := HMB.out; omega) (by have := HMB.out; omega) HZA2.out ?_))
            intro vv2 W2 ho2 hg2 hb2
            obtain ⟨A2, c2, rfl, _, _⟩ := own_form ho2
            have HF2 : Hid (Fr NoBlk w0 W2) := grown_no (HFR.out.alloc _) HOA2.out hg2
            have HO2 := Lib.hid ho2
            clear ho2 hg2 hb2 HOA2 HSA2 HZA2
            have HMB2 := HMB
            replace HMB : Hid (m + 1 ≤ 100001) := by show _ ≤ _; have := HMB2.out; omega
            have HSX := Lib.hid (HS0.out.nofr HF2.out)
            have f1 : W2.cell? ⟨g, 1, none⟩ = some (.slice (some ⟨b, o, none⟩) N c) := by rw [HN.out]; exact HSX.out.bk.cell 1
            have hfx : Hid (∀ j, j < w0.heap.size → W2.heap[j]? = wr.heap[j]?) := fun j hj => (HF2.out.block j hj fun e => e).trans (HFR.out.block j hj fun e => e).symm
            have hbl : b < w0.heap.size := HBL.out
            have g0 : W2.cell? ⟨b, o + k * 5, none⟩ = some (.string (bstr zk)) := (World.cell?_of_block (hfx.out b hbl)).trans d0
            have g1 : W2.cell? ⟨b, o + k * 5 + 1, none⟩ = some (.bool zv.has) := (World.cell?_of_block (hfx.out b hbl)).trans d1
            have g2 : W2.cell? ⟨b, o + k * 5 + 2, none⟩ = some (.slice zv.va zv.vn zv.vc) := (World.cell?_of_block (hfx.out b hbl)).trans d2
            have g3 : W2.cell? ⟨b, o + k * 5 + 3, none⟩ = some (.int .i64 zv.home) := (World.cell?_of_block (hfx.out b hbl)).trans d3
            have g4 : W2.cell? ⟨b, o + k * 5 + 4, none⟩ = some (.int .u64 (zv.count : Int)) := (World.cell?_of_block (hfx.out b hbl)).trans d4
            have HO2' : Hid (W2.ownsRow w0.heap.size 61 5 (.slice A2 (m + 1) c2) (m + 1) (itsR (vz (out ++ [(key, (v, r))])))) := by
              have h := HO2.out
              show World.ownsRow _ _ _ _ _ _ _
              unfold vz at h ⊢
              rw [List.map_append, itsR_append]
              exact h
            clear d0 d1 d2 d3 d4 c1 hbl a0 a1 a2 a3
            have HOA3 : Hid ((W2.alloc (.cells #[.string (bstr zk), .bool zv.has, .slice zv.va zv.vn zv.vc, .int .i64 zv.home, .int .u64 (zv.count : Int)] 61)).ownsRow w0.heap.size 61 5 (.slice A2 (m + 1) c2) (m + 1) (itsR (vz (out ++ [(key, (v, r))])))) := own_fr HO2'.out ((Fr.refl NoBlk _).alloc _) fun _ _ h => h
            have HSA3 : Hid (Rd (W2.alloc (.cells #[.string (bstr zk), .bool zv.has, .slice zv.va zv.vn zv.vc, .int .i64 zv.home, .int .u64 (zv.count : Int)] 61)) (some ⟨W2.heap.size, 0, none⟩) (itsR [(zk, zv)])) := Rd.of_cells (Bk.new W2 61 #[.string (bstr zk), .bool zv.has, .slice zv.va zv.vn zv.vc, .int .i64 zv.home, .int .u64 (zv.count : Int)])
            have HZA3 : Hid (w0.heap.size ≤ (W2.alloc (.cells #[.string (bstr zk), .bool zv.has, .slice zv.va zv.vn zv.vc, .int .i64 zv.home, .int .u64 (zv.count : Int)] 61)).heap.size) := (HF2.out.alloc _).size
            go_wp2_with (at_builtin; go_loud (refine wpList_appW rfl _ _ 40 rfl w0.heap.size 61 i0 _ 5 64 Try.underlying40 hi hz0 hz1 hz2 rfl (by decide) (.slice A2 (m + 1) c2) (m + 1) (itsR (vz (out ++ [(key, (v, r))]))) rfl HOA3.out (some ⟨W2.heap.size, 0, none⟩) 1 1 (itsR [(zk, zv)]) rfl rfl HSA3.out (itsR_one _) (fun e => by cases e) (by unfold maxLen; have := HMB.out; omega) (by have := HMB.out; omega) HZA3.out ?_))
            intro vv3 W3 ho3 hg3 hb3
            obtain ⟨A3, c3, rfl, _, _⟩ := own_form ho3
            have HF3 : Hid (Fr NoBlk w0 W3) := grown_no (HF2.out.alloc _) HOA3.out hg3
            have HO3 := Lib.hid ho3
            clear ho3 hg3 hb3 HOA3 HSA3 HZA3
            go_wp2_with fail
            go_roundw
            case rel =>
              refine ⟨k + 1, out ++ [(key, (v, r))] ++ [(zk, (zv, zr))], false, A3, c3, m + 1 + 1, rfl, rfl, by go_num, by omega, ⟨?_, ?_, ?_, HF3.out⟩⟩
              · rw [List.length_append, List.length_append, HI.out.len]; rfl
              · have h := HO3.out
                unfold vz at h ⊢
                rw [List.map_append, itsR_append]
                exact h
              · rw [HTK.out]; exact HIN.out
            case measure => simp [intOf]; omega
          | false =>
            have HLS : Hid (Op.bytesLess key zk = false) := hc
            clear hc
            by_cases hzk : zk = key
            · have hq := eq_bstr hzk
              have hl1 : Op.bytesLess (bstr zk).toList (bstr key).toList = false := by rw [bstr_toList, bstr_toList, hzk]; exact less_irrefl _
              have HIN : Hid (SetI key (v, r) kp (zs.take k ++ [(zk, (zv, zr))]) true out) := HI.out.set.skip HUP.out hzk
              clear hzk
              go_wp2_with fail
              go_roundw
              case rel => exact ⟨k + 1, out, true, A', c', m, rfl, rfl, by go_num, by omega, ⟨HI.out.len, HOW.out, by rw [HTK.out]; exact HIN.out, HFR.out⟩⟩
              case measure => simp [intOf]; omega
            · have hq := ne_bstr hzk
              have hl1 : Op.bytesLess (bstr zk).toList (bstr key).toList = true := by
                rw [bstr_toList, bstr_toList]
                cases e : Op.bytesLess zk key with
                | true => rfl
                | false => exact absurd (less_total e HLS.out) hzk
              have HIN : Hid (SetI key (v, r) kp (zs.take k ++ [(zk, (zv, zr))]) true (out ++ [(zk, (zv, zr))])) := HI.out.set.more HUP.out (fun _ => HLS.out) hzk
              clear hzk
              have HOA2 : Hid ((wr.alloc (.cells #[.string (bstr zk), .bool zv.has, .slice zv.va zv.vn zv.vc, .int .i64 zv.home, .int .u64 (zv.count : Int)] 61)).ownsRow w0.heap.size 61 5 (.slice A' m c') m (itsR (vz out))) := own_fr HOW.out ((Fr.refl NoBlk _).alloc _) fun _ _ h => h
              have HSA2 : Hid (Rd (wr.alloc (.cells #[.string (bstr zk), .bool zv.has, .slice zv.va zv.vn zv.vc, .int .i64 zv.home, .int .u64 (zv.count : Int)] 61)) (some ⟨wr.heap.size, 0, none⟩) (itsR [(zk, zv)])) := Rd.of_cells (Bk.new wr 61 #[.string (bstr zk), .bool zv.has, .slice zv.va zv.vn zv.vc, .int .i64 zv.home, .int .u64 (zv.count : Int)])
              have HZA2 : Hid (w0.heap.size ≤ (wr.alloc (.cells #[.string (bstr zk), .bool zv.has, .slice zv.va zv.vn zv.vc, .int .i64 zv.home, .int .u64 (zv.count : Int)] 61)).heap.size) := (HFR.out.alloc _).size
              go_wp2_with (at_builtin; go_loud (refine wpList_appW rfl _ _ 40 rfl w0.heap.size 61 i0 _ 5 64 Try.underlying40 hi hz0 hz1 hz2 rfl (by decide) (.slice A' m c') m (itsR (vz out)) rfl HOA2.out (some ⟨wr.heap.size, 0, none⟩) 1 1 (itsR [(zk, zv)]) rfl rfl HSA2.out (itsR_one _) (fun e => by cases e) (by unfold maxLen; have := HMB.out; omega) (by have := HMB.out; omega) HZA2.out ?_))
              intro vv2 W2 ho2 hg2 hb2
              obtain ⟨A2, c2, rfl, _, _⟩ := own_form ho2
              have HF2 : Hid (Fr NoBlk w0 W2) := grown_no (HFR.out.alloc _) HOA2.out hg2
              have HO2 := Lib.hid ho2
              clear ho2 hg2 hb2 HOA2 HSA2 HZA2
              go_wp2_with fail
              go_roundw
              case rel =>
                refine ⟨k + 1, out ++ [(zk, (zv, zr))], true, A2, c2, m + 1, rfl, rfl, by go_num, by omega, ⟨?_, ?_, ?_, HF2.out⟩⟩
                · rw [List.length_append, HI.out.len]; rfl
                · have h := HO2.out
                  unfold vz at h ⊢
                  rw [List.map_append, itsR_append]
                  exact h
                · rw [HTK.out]; exact HIN.out
              case measure => simp [intOf]; omega
        | false =>
          have HLS : Hid (true = true) := rfl
          by_cases hzk : zk = key
          · have hq := eq_bstr hzk
            have hl1 : Op.bytesLess (bstr zk).toList (bstr key).toList = false := by rw [bstr_toList, bstr_toList, hzk]; exact less_irrefl _
            have HIN : Hid (SetI key (v, r) kp (zs.take k ++ [(zk, (zv, zr))]) false out) := HI.out.set.skip HUP.out hzk
            clear hzk
            go_wp2_with fail
            go_roundw
            case rel => exact ⟨k + 1, out, false, A', c', m, rfl, rfl, by go_num, by omega, ⟨HI.out.len, HOW.out, by rw [HTK.out]; exact HIN.out, HFR.out⟩⟩
            case measure => simp [intOf]; omega
          · have hq := ne_bstr hzk
            have HIN : Hid (SetI key (v, r) kp (zs.take k ++ [(zk, (zv, zr))]) false (out ++ [(zk, (zv, zr))])) := HI.out.set.more HUP.out (fun e => by cases e) hzk
            clear hzk
            have HOA2 : Hid ((wr.alloc (.cells #[.string (bstr zk), .bool zv.has, .slice zv.va zv.vn zv.vc, .int .i64 zv.home, .int .u64 (zv.count : Int)] 61)).ownsRow w0.heap.size 61 5 (.slice A' m c') m (itsR (vz out))) := own_fr HOW.out ((Fr.refl NoBlk _).alloc _) fun _ _ h => h
            have HSA2 : Hid (Rd (wr.alloc (.cells #[.string (bstr zk), .bool zv.has, .slice zv.va zv.vn zv.vc, .int .i64 zv.home, .int .u64 (zv.count : Int)] 61)) (some ⟨wr.heap.size, 0, none⟩) (itsR [(zk, zv)])) := Rd.of_cells (Bk.new wr 61 #[.string (bstr zk), .bool zv.has, .slice zv.va zv.vn zv.vc, .int .i64 zv.home, .int .u64 (zv.count : Int)])
            have HZA2 : Hid (w0.heap.size ≤ (wr.alloc (.cells #[.string (bstr zk), .bool zv.has, .slice zv.va zv.vn zv.vc, .int .i64 zv.home, .int .u64 (zv.count : Int)] 61)).heap.size) := (HFR.out.alloc _).size
            go_wp2_with (at_builtin; go_loud (refine wpList_appW rfl _ _ 40 rfl w0.heap.size 61 i0 _ 5 64 Try.underlying40 hi hz0 hz1 hz2 rfl (by decide) (.slice A' m c') m (itsR (vz out)) rfl HOA2.out (some ⟨wr.heap.size, 0, none⟩) 1 1 (itsR [(zk, zv)]) rfl rfl HSA2.out (itsR_one _) (fun e => by cases e) (by unfold maxLen; have := HMB.out; omega) (by have := HMB.out; omega) HZA2.out ?_))
            intro vv2 W2 ho2 hg2 hb2
            obtain ⟨A2, c2, rfl, _, _⟩ := own_form ho2
            have HF2 : Hid (Fr NoBlk w0 W2) := grown_no (HFR.out.alloc _) HOA2.out hg2
            have HO2 := Lib.hid ho2
            clear ho2 hg2 hb2 HOA2 HSA2 HZA2
            go_wp2_with fail
            go_roundw
            case rel =>
              refine ⟨k + 1, out ++ [(zk, (zv, zr))], false, A2, c2, m + 1, rfl, rfl, by go_num, by omega, ⟨?_, ?_, ?_, HF2.out⟩⟩
              · rw [List.length_append, HI.out.len]; rfl
              · have h := HO2.out
                unfold vz at h ⊢
                rw [List.map_append, itsR_append]
                exact h
              · rw [HTK.out]; exact HIN.out
            case measure => simp [intOf]; omega
      · by_cases hkk : kk = true
        · subst hkk
          have HDN : Hid (out ++ [(key, (v, r))] = if kp then putL Op.bytesLess key (v, r) zs else delL Op.bytesLess key zs) := by
            have h := HI.out.set.done
            rw [if_pos rfl, List.take_of_length_le (by rw [← HN.out]; omega)] at h
            exact h
          have a0 : wr.cell? ⟨p, 0, none⟩ = some (.bool v.has) := HPW.out.cell 0
          have a1 : wr.cell? ⟨p, 1, none⟩ = some (.slice v.va v.vn v.vc) := HPW.out.cell 1
          have a2 : wr.cell? ⟨p, 2, none⟩ = some (.int .i64 v.home) := HPW.out.cell 2
          have a3 : wr.cell? ⟨p, 3, none⟩ = some (.int .u64 (v.count : Int)) := HPW.out.cell 3
          have HOA2 : Hid ((wr.alloc (.cells #[.string (bstr key), .bool v.has, .slice v.va v.vn v.vc, .int .i64 v.home, .int .u64 (v.count : Int)] 61)).ownsRow w0.heap.size 61 5 (.slice A' m c') m (itsR (vz out))) := own_fr HOW.out ((Fr.refl NoBlk _).alloc _) fun _ _ h => h
          have HSA2 : Hid (Rd (wr.alloc (.cells #[.string (bstr key), .bool v.has, .slice v.va v.vn v.vc, .int .i64 v.home, .int .u64 (v.count : Int)] 61)) (some ⟨wr.heap.size, 0, none⟩) (itsR [(key, v)])) := Rd.of_cells (Bk.new wr 61 #[.string (bstr key), .bool v.has, .slice v.va v.vn v.vc, .int .i64 v.home, .int .u64 (v.count : Int)])
          have HZA2 : Hid (w0.heap.size ≤ (wr.alloc (.cells #[.string (bstr key), .bool v.has, .slice v.va v.vn v.vc, .int .i64 v.home, .int .u64 (v.count : Int)] 61)).heap.size) := (HFR.out.alloc _).size
          go_wp2_with (at_builtin; go_loud (refine wpList_appW rfl _ _ 40 rfl w0.heap.size 61 i0 _ 5 64 Try.underlying40 hi hz0 hz1 hz2 rfl (by decide) (.slice A' m c') m (itsR (vz out)) rfl HOA2.out (some ⟨wr.heap.size, 0, none⟩) 1 1 (itsR [(key, v)]) rfl rfl HSA2.out (itsR_one _) (fun e => by cases e) (by unfold maxLen; have := HMB.out; omega) (by have := HMB.out; omega) HZA2.out ?_))
          intro vv2 W2 ho2 hg2 hb2
          obtain ⟨A2, c2, rfl, _, _⟩ := own_form ho2
          have HF2 : Hid (Fr NoBlk w0 W2) := grown_no (HFR.out.alloc _) HOA2.out hg2
          have HO2 := Lib.hid ho2
          clear ho2 hg2 hb2 HOA2 HSA2 HZA2
          have hl : (out ++ [(key, (v, r))]).length = m + 1 := by rw [List.length_append, HI.out.len]; rfl
          have HO2' : Hid (W2.ownsRow w0.heap.size 61 5 (.slice A2 (m + 1) c2) (m + 1) (itsR (vz (out ++ [(key, (v, r))])))) := by
            have h := HO2.out
            show World.ownsRow _ _ _ _ _ _ _
            unfold vz at h ⊢
            rw [List.map_append, itsR_append]
            exact h
          have HTD := HS.out.told (A' := A2) (c' := c2) (out := out ++ [(key, (v, r))]) HF00.out HF2.out (by rw [hl]; exact HO2'.out) HR.out.1 HR.out.2 HKP.out HDN.out
          rw [hl] at HTD
          have HTDH := Lib.hid HTD
          have HSX := Lib.hid (HS0.out.nofr HF2.out)
          have f1 : W2.cell? ⟨g, 1, none⟩ = some (.slice A N c) := by rw [HN.out]; exact HSX.out.bk.cell 1
          have ff := HSX.out.bk.free 1
          clear HTD hl c1
          go_wp2_with fail
          go_end0
          exact ⟨⟨_, rfl⟩, HTDH.out⟩
        · obtain rfl : kk = false := by cases kk with | true => exact absurd rfl hkk | false => rfl
          have HDN : Hid (out = if kp then putL Op.bytesLess key (v, r) zs else delL Op.bytesLess key zs) := by
            have h := HI.out.set.done
            rw [if_neg Bool.false_ne_true, List.take_of_length_le (by rw [← HN.out]; omega)] at h
            exact h
          have hl : out.length = m := HI.out.len.symm
          have HTD := HS.out.told (A' := A') (c' := c') (out := out) HF00.out HFR.out (by rw [hl]; exact HOW.out) HR.out.1 HR.out.2 HKP.out HDN.out
          rw [hl] at HTD
          have HTDH := Lib.hid HTD
          have ff := HSW.out.bk.free 1
          clear HTD hl hkk
          go_wp2_with fail
          go_end0
          exact ⟨⟨_, rfl⟩, HTDH.out⟩
end Go.Proofs.Ytkdcacajacndmaa

namespace Go.Proofs.Ytkdcacajacndmaa
open Go.RowKit
theorem RSetPost.boxed [Ex] {w w2 W W' : World} {B g n p : Nat} {rs : List Rw} {e : Ending} (h : RSetPost W B g n rs e W') (hf : Fr NoBlk w w2) (hx : Fr (fun k => k = p) w2 W) (hp : w.heap.size ≤ p) : RSetPost w B g n rs e W' := by
  obtain ⟨h1, O', h2, h3, h4⟩ := h
  have hfw : Fr (fun b => b = g) w W := ((hf.mono fun _ _ e => e.elim).trans hx).mono fun b hb e => by omega
  exact ⟨h1, O', h2, hfw.trans h3, fun b hb => (h4 b hb).imp id fun e => Nat.le_trans hfw.size e⟩
theorem RSetPost.pre [Ex] {w w2 W' : World} {B g n : Nat} {rs : List Rw} {e : Ending} (h : RSetPost w2 B g n rs e W') (hf : Fr NoBlk w w2) : RSetPost w B g n rs e W' := by
  obtain ⟨h1, O', h2, h3, h4⟩ := h
  exact ⟨h1, O', h2, (hf.mono fun _ _ e => e.elim).trans h3, fun b hb => (h4 b hb).imp id fun e => Nat.le_trans hf.size e⟩
set_option maxRecDepth 100000 in
set_option maxHeartbeats 2000000 in
theorem rput_any [Ex] (w : World) (B g : Nat) (O : Nat → Prop) (n : Nat) (rs : List Rw) (h : RSt w B g O n rs) (hlen : rs.length ≤ 99999) (key : Bs) (hk : key.length ≤ 1000000000) (A : Option Addr) (m c : Nat) (l : Bs) (hm : m = l.length) (hA : A = none → c = 0) (hl : Rd w A (cb l)) (hll : l.length ≤ 1000000000) :
    Calls Try.prog 36 #[.pointer (some ⟨g, 0, none⟩), .string (bstr key), .slice A m c] w (RSetPost w B g n (rset rs key ⟨true, l, (rget n rs key).home, (rget n rs key).count⟩)) := by
  obtain ⟨i1, hi1, hy0, hy1, hy2⟩ := info_parts byteInfo
  have HRC := Lib.hid (rget_any w B g O n rs h (by omega) key hk)
  obtain ⟨r, hr⟩ : ∃ r, r = rget n rs key := ⟨_, rfl⟩
  rw [← hr] at HRC ⊢
  have HST := Lib.hid h
  have HLEN := Lib.hid hlen
  have HCT : Hid (r.count < 2 ^ 64) := by
    show _ < _
    rw [hr]
    exact rget_cnt h.cnt
  have HL := Lib.hid (And.intro hm (And.intro hA (And.intro hl hll)))
  clear h hlen hk hm hA hl hll hr
  go_enter Try.func36, Try.ntmps36
  go_wp2_with fail
  refine HRC.out.mono ?_
  clear HRC
  rintro e w1 ⟨v, rfl, hrd, hf1⟩
  unfold vaR
  obtain ⟨p, hp⟩ : ∃ p, p = w1.heap.size := ⟨_, rfl⟩
  obtain ⟨w2, hw2⟩ : ∃ W, W = w1.alloc (.cells #[.bool v.has, .slice v.va v.vn v.vc, .int .i64 v.home, .int .u64 (v.count : Int)] 38) := ⟨_, rfl⟩
  have hf2 : Fr NoBlk w w2 := by rw [hw2]; exact hf1.alloc _
  have HP2 : Hid (Bk w2 p 38 #[.bool v.has, .slice v.va v.vn v.vc, .int .i64 v.home, .int .u64 (v.count : Int)]) := by show Bk _ _ _ _; rw [hw2, hp]; exact Bk.new _ _ _
  have HRD := Lib.hid (hrd.nofr (show Fr NoBlk w1 w2 by rw [hw2]; exact (Fr.refl _ _).alloc _))
  have HF2 := Lib.hid hf2
  have HPW : Hid (w.heap.size ≤ p) := by show _ ≤ _; rw [hp]; exact hf1.size
  have HST2 := Lib.hid (HST.out.nofr hf2)
  have HGP : Hid (∀ b, O b → b < p) := fun b hb => by have := (HST.out.lt hb).2; have := HPW.out; omega
  have HW2 := Lib.hid hw2
  have HP := Lib.hid hp
  clear hrd hf1 hf2 hp hw2
  go_upto_region 1 with fail
  rw [← HW2.out, ← HP.out]
  clear HW2 HP
  have HSK : Hid (∀ w', Fr NoBlk w2 w' → w'.cell? ⟨p, 2, none⟩ = some (.int .i64 v.home) ∧ w'.cell? ⟨p, 3, none⟩ = some (.int .u64 (v.count : Int))) := fun w' hw => ⟨(HP2.out.fr hw fun e => e).cell 2, (HP2.out.fr hw fun e => e).cell 3⟩
  refine wp_region_held_drew (S := fun w' => w'.cell? ⟨p, 2, none⟩ = some (.int .i64 v.home) ∧ w'.cell? ⟨p, 3, none⟩ = some (.int .u64 (v.count : Int))) (by kernel_rfl) (HSK.out _ (Fr.refl _ _).drew) (fun hHeld => ?_)
  refine wpAnyH_take (i := 0) (oi := ⟨some 10, _, _, _, _, _⟩) (v := ?_) rfl (by kernel_rfl) (by kernel_rfl) (by kernel_rfl) (fun _ _ _ h => h) (Or.inl ⟨by rfl, ?_⟩) (by assumption) ?_
  rotate_left 1
  · (intro w hSw; (try dsimp only at hSw); obtain ⟨hS2, hS3⟩ := hSw; go_simp) <;> (with_reducible rfl)
  try simp only [Act.put, List.setIfInBounds_toArray, List.set_cons_zero, List.set_cons_succ]
  refine wpAnyH_take (i := 1) (oi := ⟨some 11, _, _, _, _, _⟩) (v := ?_) rfl (by kernel_rfl) (by kernel_rfl) (by kernel_rfl) (fun _ _ _ h => h) (Or.inl ⟨by rfl, ?_⟩) (by assumption) ?_
  rotate_left 1
  · (intro w hSw; (try dsimp only at hSw); obtain ⟨hS2, hS3⟩ := hSw; go_simp) <;> (with_reducible rfl)
  try simp only [Act.put, List.setIfInBounds_toArray, List.set_cons_zero, List.set_cons_succ]
  refine wpAnyH_take (i := 3) (oi := ⟨some 13, _, _, _, _, _⟩) (v := ?_) rfl (by kernel_rfl) (by kernel_rfl) (by kernel_rfl) (fun _ _ _ h => h) (Or.inl ⟨by rfl, ?_⟩) (by assumption) ?_
  rotate_left 1
  · (intro w hSw; (try dsimp only at hSw); obtain ⟨hS2, hS3⟩ := hSw; go_simp) <;> (with_reducible rfl)
  try simp only [Act.put, List.setIfInBounds_toArray, List.set_cons_zero, List.set_cons_succ]
  refine wpAnyH_take (i := 5) (oi := ⟨some 15, _, _, _, _, _⟩) (v := ?_) rfl (by kernel_rfl) (by kernel_rfl) (by kernel_rfl) (fun _ _ _ h => h) (Or.inl ⟨by rfl, ?_⟩) (by assumption) ?_
  rotate_left 1
  · (intro w hSw; (try dsimp only at hSw); obtain ⟨hS2, hS3⟩ := hSw; go_simp) <;> (with_reducible rfl)
  try simp only [Act.put, List.setIfInBounds_toArray, List.set_cons_zero, List.set_cons_succ]
  refine wpAnyH_take (i := 6) (oi := ⟨some 16, _, _, _, _, _⟩) (v := ?_) rfl (by kernel_rfl) (by kernel_rfl) (by kernel_rfl) (fun _ _ _ h => h) (Or.inl ⟨by rfl, ?_⟩) (by assumption) ?_
  rotate_left 1
  · (intro w hSw; (try dsimp only at hSw); obtain ⟨hS2, hS3⟩ := hSw; go_simp) <;> (with_reducible rfl)
  try simp only [Act.put, List.setIfInBounds_toArray, List.set_cons_zero, List.set_cons_succ]
  refine wpAnyH_take (i := 7) (oi := ⟨some 17, _, _, _, _, _⟩) (v := ?_) rfl (by kernel_rfl) (by kernel_rfl) (by kernel_rfl) (fun _ _ _ h => h) (Or.inl ⟨by rfl, ?_⟩) (by assumption) ?_
  rotate_left 1
  · (intro w hSw; (try dsimp only at hSw); obtain ⟨hS2, hS3⟩ := hSw; go_simp) <;> (with_reducible rfl)
  try simp only [Act.put, List.setIfInBounds_toArray, List.set_cons_zero, List.set_cons_succ]
  refine wpAnyH_take (i := 8) (oi := ⟨some 18, _, _, _, _, _⟩) (v := ?_) rfl (by kernel_rfl) (by kernel_rfl) (by kernel_rfl) (fun _ _ _ h => h) (Or.inl ⟨by rfl, ?_⟩) (by assumption) ?_
  rotate_left 1
  · (intro w hSw; (try dsimp only at hSw); obtain ⟨hS2, hS3⟩ := hSw; go_simp) <;> (with_reducible rfl)
  try simp only [Act.put, List.setIfInBounds_toArray, List.set_cons_zero, List.set_cons_succ]
  refine wpAnyH_ready (rs := [2]) (by kernel_rfl) (by simp) ?_
  refine AllReadyH.cons (o := ⟨some 12, _, _, _, _, _⟩) rfl (fun K hK => ?_) AllReadyH.nil
  go_simp
  refine hK.out _ _ ?_ (fun hHeld => ?_)
  · exact HSK.out _ (((Fr.refl _ _).alloc _).drew)
  clear hK K
  try simp only [Act.put, List.setIfInBounds_toArray, List.set_cons_zero, List.set_cons_succ]
  obtain ⟨wq, hwq⟩ : ∃ wq, wq = (w2.alloc (.cells #[] 5)).drew := ⟨_, rfl⟩
  rw [← hwq]
  obtain ⟨q, hq⟩ : ∃ q, q = w2.heap.size := ⟨_, rfl⟩
  have HFQ : Hid (Fr NoBlk w2 wq) := by show Fr _ _ _; rw [hwq]; exact ((Fr.refl _ _).alloc _).drew
  have HOQ : Hid (wq.ownsRow w2.heap.size 5 1 (.slice (some ⟨q, 0, none⟩) 0 0) 0 []) := by
    have hb : Bk wq q 5 #[] := by rw [hwq, hq]; exact (Bk.new _ _ _).fr (Fr.refl NoBlk _).drew fun e => e
    exact own_litW 1 hb (by rw [hq]; exact Nat.le_refl _)
  have HRQ : Hid (Rd wq A (cb l)) := HL.out.2.2.1.nofr (HF2.out.trans HFQ.out)
  rw [← hq]
  clear hq hwq hHeld
  refine wpAnyH_ready (rs := [4]) (by kernel_rfl) (by simp) ?_
  refine AllReadyH.cons (o := ⟨some 14, _, _, _, _, _⟩) rfl (fun K hK => ?_) AllReadyH.nil
  refine step_appW rfl _ _ 31 rfl w2.heap.size 5 i1 _ 1 1 Try.underlying31 hi1 hy0 hy1 hy2 rfl (by decide) (.slice (some ⟨q, 0, none⟩) 0 0) 0 [] rfl HOQ.out A c m (cb l) rfl (by rw [cb_length, Nat.mul_one]; exact HL.out.1.symm) HRQ.out (cb_one _) HL.out.2.1 (by unfold maxLen; have := HL.out; omega) (by have := HL.out; omega) HFQ.out.size ?_
  intro vv W3 ho3 hg3 hb3
  rw [Nat.zero_add, List.nil_append] at ho3
  obtain ⟨A3, c3, rfl, _, hn3⟩ := own_form ho3
  have HF3 : Hid (Fr NoBlk w2 W3) := grown_no HFQ.out HOQ.out hg3
  have HO3 : Hid (W3.ownsRow w2.heap.size 5 1 (.slice A3 m c3) m (cb l)) := ho3
  clear ho3 hg3 hb3
  refine hK.out _ _ ?_ (fun hHeld => ?_)
  · exact HSK.out _ HF3.out
  clear hK K
  try simp only [Act.put, List.setIfInBounds_toArray, List.set_cons_zero, List.set_cons_succ]
  refine wpAnyH_take (i := 9) (oi := ⟨some 19, _, _, _, _, _⟩) (v := ?_) rfl (by kernel_rfl) (by kernel_rfl) (by kernel_rfl) (fun _ _ _ h => h) (Or.inl ⟨by rfl, ?_⟩) (by assumption) ?_
  rotate_left 1
  · (intro w hSw; (try dsimp only at hSw); obtain ⟨hS2, hS3⟩ := hSw; go_simp) <;> (with_reducible rfl)
  try simp only [Act.put, List.setIfInBounds_toArray, List.set_cons_zero, List.set_cons_succ]
  obtain ⟨u, hu⟩ : ∃ u : VaR, u = ⟨true, A3, m, c3, v.home, v.count⟩ := ⟨_, rfl⟩
  have HU := Lib.hid hu
  have HRS : Hid (Calls Try.prog 58 #[.pointer (some ⟨g, 0, none⟩), .string (bstr key), .agg #[.bool true, .slice A3 m c3, .int .i64 v.home, .int .u64 (v.count : Int)]] W3 (RSetPost W3 B g n (rset rs key ⟨true, l, r.home, r.count⟩))) := by
    have h := rset_any W3 B g O n rs (HST2.out.nofr HF3.out) HLEN.out key u ⟨true, l, r.home, r.count⟩ (by
      rw [hu]
      have ho := HO3.out
      exact ⟨rfl, HRD.out.home, HRD.out.count, HL.out.1, hn3, Rd.of_ownW ho, fun j hj => ⟨Byt.own ho (ablk_own hj), fun e => by
        have h1 := (own_in ho (ablk_own hj)).1
        have h2 := HST2.out.lx j e
        omega⟩⟩) HCT.out
    rw [hu] at h
    unfold vaR at h
    exact h
  clear hu
  refine wpAnyH_ready (rs := [10]) (by kernel_rfl) (by simp) ?_
  refine AllReadyH.cons (o := ⟨some 20, _, _, _, _, _⟩) rfl (fun K hK => ?_) AllReadyH.nil
  go_simp
  go_at_call 58
  refine HRS.out.mono ?_
  rintro _ W4 ⟨⟨x, rfl⟩, hkp⟩
  have HKP := Lib.hid hkp
  clear hkp hHeld
  refine hK.out _ _ ?_ (fun hHeld => ?_)
  · obtain ⟨O9, _, h9, _⟩ := HKP.out
    have hp1 : p < W3.heap.size := by have := HP2.out.lt; have := HF3.out.size; omega
    have hp2 : ¬ p = g := by have := HGP.out g HST.out.self; omega
    exact ⟨(h9.cell (p := ⟨p, 2, none⟩) hp1 hp2).trans (HSK.out _ HF3.out).1, (h9.cell (p := ⟨p, 3, none⟩) hp1 hp2).trans (HSK.out _ HF3.out).2⟩
  clear hK K
  try simp only [Act.put, List.setIfInBounds_toArray, List.set_cons_zero, List.set_cons_succ]
  refine wpAnyH_done (by kernel_rfl) ?_ _
  go_wp2_with fail
  go_end0
  have hh : RSetPost W3 B g n (rset rs key ⟨true, l, r.home, r.count⟩) (.returned x) W4 := ⟨⟨_, rfl⟩, HKP.out⟩
  obtain ⟨_, h3⟩ := hh.pre (HF2.out.trans HF3.out)
  exact ⟨⟨_, rfl⟩, h3⟩
set_option maxRecDepth 100000 in
set_option maxHeartbeats 1000000 in
theorem rdel_any [Ex] (w : World) (B g : Nat) (O : Nat → Prop) (n : Nat) (rs : List Rw) (h : RSt w B g O n rs) (hlen : rs.length ≤ 99999) (key : Bs) (hk : key.length ≤ 1000000000) :
    Calls Try.prog 33 #[.pointer (some ⟨g, 0, none⟩), .string (bstr key)] w (RSetPost w B g n (rset rs key ⟨false, [], (rget n rs key).home, (rget n rs key).count⟩)) := by
  have HRC := Lib.hid (rget_any w B g O n rs h (by omega) key hk)
  obtain ⟨r, hr⟩ : ∃ r, r = rget n rs key := ⟨_, rfl⟩
  rw [← hr] at HRC ⊢
  have HST := Lib.hid h
  have HLEN := Lib.hid hlen
  have HCT : Hid (r.count < 2 ^ 64) := by
    show _ < _
    rw [hr]
    exact rget_cnt h.cnt
  clear h hlen hk hr
  go_enter Try.func33, Try.ntmps33
  go_wp2_with fail
  refine HRC.out.mono ?_
  clear HRC
  rintro e w1 ⟨v, rfl, hrd, hf1⟩
  unfold vaR
  obtain ⟨p, hp⟩ : ∃ p, p = w1.heap.size := ⟨_, rfl⟩
  obtain ⟨w2, hw2⟩ : ∃ W, W = w1.alloc (.cells #[.bool v.has, .slice v.va v.vn v.vc, .int .i64 v.home, .int .u64 (v.count : Int)] 38) := ⟨_, rfl⟩
  have hf2 : Fr NoBlk w w2 := by rw [hw2]; exact hf1.alloc _
  have HP2 : Hid (Bk w2 p 38 #[.bool v.has, .slice v.va v.vn v.vc, .int .i64 v.home, .int .u64 (v.count : Int)]) := by show Bk _ _ _ _; rw [hw2, hp]; exact Bk.new _ _ _
  have HRD := Lib.hid (hrd.nofr (show Fr NoBlk w1 w2 by rw [hw2]; exact (Fr.refl _ _).alloc _))
  have HF2 := Lib.hid hf2
  have HPW : Hid (w.heap.size ≤ p) := by show _ ≤ _; rw [hp]; exact hf1.size
  have HST2 := Lib.hid (HST.out.nofr hf2)
  have HGP : Hid (∀ b, O b → b < p) := fun b hb => by have := (HST.out.lt hb).2; have := HPW.out; omega
  have HW2 := Lib.hid hw2
  have HP := Lib.hid hp
  have HRS : Hid (Calls Try.prog 58 #[.pointer (some ⟨g, 0, none⟩), .string (bstr key), .agg #[.bool false, .slice none 0 0, .int .i64 v.home, .int .u64 (v.count : Int)]] w2 (RSetPost w2 B g n (rset rs key ⟨false, [], r.home, r.count⟩))) := rset_any w2 B g O n rs HST2.out HLEN.out key ⟨false, none, 0, 0, v.home, v.count⟩ ⟨false, [], r.home, r.count⟩ ⟨rfl, HRD.out.home, HRD.out.count, rfl, fun _ => rfl, Rd.none_ _ _, fun k hk => by obtain ⟨x, hx, _⟩ := hk; cases hx⟩ HCT.out
  clear hrd hf1 hf2 hp hw2
  go_upto_region 1 with fail
  rw [← HW2.out, ← HP.out]
  clear HW2 HP
  have a0 : w2.cell? ⟨p, 0, none⟩ = some (.bool v.has) := HP2.out.cell 0
  have a1 : w2.cell? ⟨p, 1, none⟩ = some (.slice v.va v.vn v.vc) := HP2.out.cell 1
  have a2 : w2.cell? ⟨p, 2, none⟩ = some (.int .i64 v.home) := HP2.out.cell 2
  have a3 : w2.cell? ⟨p, 3, none⟩ = some (.int .u64 (v.count : Int)) := HP2.out.cell 3
  go_wp2_with fail
  refine HRS.out.mono ?_
  clear HRS
  rintro e w5 ⟨⟨x, rfl⟩, hkp⟩
  have HKP := Lib.hid hkp
  clear hkp
  go_wp2_with fail
  go_end0
  have hh : RSetPost w2 B g n (rset rs key ⟨false, [], r.home, r.count⟩) (.returned x) w5 := ⟨⟨_, rfl⟩, HKP.out⟩
  obtain ⟨_, h3⟩ := hh.pre HF2.out
  exact ⟨⟨_, rfl⟩, h3⟩
end Go.Proofs.Ytkdcacajacndmaa

namespace Go.Proofs.Ytkdcacajacndmaa
open Go.RowKit
def RMovePost [Ex] (w : World) (B g n : Nat) (O : Nat → Prop) (rs : List Rw) (key : Bs) (home : Int) (e : Ending) (w' : World) : Prop :=
  e = .returned (.int .i64 (moveE n rs key home)) ∧ ∃ O', RSt w' B g O' n (moveR n rs key home) ∧ Fr (fun b => b = g) w w' ∧ ∀ b, O' b → O b ∨ w.heap.size ≤ b
theorem RSt.stay [Ex] {w w' : World} {B g n : Nat} {O : Nat → Prop} {rs : List Rw} (h : RSt w B g O n rs) (hf : Fr NoBlk w w') : ∃ O', RSt w' B g O' n rs ∧ Fr (fun b => b = g) w w' ∧ ∀ b, O' b → O b ∨ w.heap.size ≤ b :=
  ⟨O, h.nofr hf, hf.mono fun _ _ e => e.elim, fun _b hb => .inl hb⟩
set_option maxRecDepth 100000 in
set_option maxHeartbeats 1000000 in
theorem rmove_any [Ex] (w : World) (B g : Nat) (O : Nat → Prop) (n : Nat) (rs : List Rw) (h : RSt w B g O n rs) (hlen : rs.length ≤ 99999) (key : Bs) (hk : key.length ≤ 1000000000) (home : Int) :
    Calls Try.prog 34 #[.pointer (some ⟨g, 0, none⟩), .string (bstr key), .int .i64 home] w (RMovePost w B g n O rs key home) := by
  have hE0 : ∀ r, r = rget n rs key → moveE n rs key home = if home < 0 ∨ (n : Int) ≤ home then 1 else if r.count = 18446744073709551615 then 111 else 0 := fun r e => by rw [e]; rfl
  have hR0 : ∀ r, r = rget n rs key → moveR n rs key home = if moveE n rs key home = 0 then rset rs key ⟨r.has, r.val, home, r.count + 1⟩ else rs := fun r e => by rw [e]; rfl
  unfold RMovePost
  have HE := Lib.hid (hE0 _ rfl)
  have HRR := Lib.hid (hR0 _ rfl)
  clear hE0 hR0
  have HRC := Lib.hid (rget_any w B g O n rs h (by omega) key hk)
  obtain ⟨r, hr⟩ : ∃ r, r = rget n rs key := ⟨_, rfl⟩
  rw [← hr] at HRC HE HRR
  have HST := Lib.hid h
  have HLEN := Lib.hid hlen
  have HCT : Hid (r.count < 2 ^ 64) := by
    show _ < _
    rw [hr]
    exact rget_cnt h.cnt
  clear h hlen hk hr
  go_enter Try.func34, Try.ntmps34
  have HSW := HST.out
  have c0 : w.cell? ⟨g, 0, none⟩ = some (.int .i64 (n : Int)) := by obtain ⟨A, c, zs, hs, _⟩ := HST.out; exact hs.bk.cell 0
  clear HSW
  by_cases h0 : home < 0
  · have HEE : Hid (moveE n rs key home = 1) := HE.out.trans (if_pos (.inl h0))
    go_wp2_with fail
    go_ret
    refine ⟨by rw [HEE.out]; rfl, ?_⟩
    rw [HRR.out, HEE.out]
    exact HST.out.stay (Fr.refl _ _)
  by_cases hn : (n : Int) ≤ home
  · have HEE : Hid (moveE n rs key home = 1) := HE.out.trans (if_pos (.inr hn))
    go_wp2_with fail
    go_ret
    refine ⟨by rw [HEE.out]; rfl, ?_⟩
    rw [HRR.out, HEE.out]
    exact HST.out.stay (Fr.refl _ _)
  have hn' : home < (n : Int) := by omega
  have HNN0 : Hid (¬ (n : Int) ≤ home) := hn
  clear hn
  go_wp2_with fail
  refine HRC.out.mono ?_
  clear HRC
  rintro e w1 ⟨v, rfl, hrd, hf1⟩
  unfold vaR
  obtain ⟨p, hp⟩ : ∃ p, p = w1.heap.size := ⟨_, rfl⟩
  obtain ⟨w2, hw2⟩ : ∃ W, W = w1.alloc (.cells #[.bool v.has, .slice v.va v.vn v.vc, .int .i64 v.home, .int .u64 (v.count : Int)] 38) := ⟨_, rfl⟩
  have hf2 : Fr NoBlk w w2 := by rw [hw2]; exact hf1.alloc _
  have HP2 : Hid (Bk w2 p 38 #[.bool v.has, .slice v.va v.vn v.vc, .int .i64 v.home, .int .u64 (v.count : Int)]) := by show Bk _ _ _ _; rw [hw2, hp]; exact Bk.new _ _ _
  have HRD := Lib.hid (hrd.nofr (show Fr NoBlk w1 w2 by rw [hw2]; exact (Fr.refl _ _).alloc _))
  have HF2 := Lib.hid hf2
  have HPW : Hid (w.heap.size ≤ p) := by show _ ≤ _; rw [hp]; exact hf1.size
  have HST2 := Lib.hid (HST.out.nofr hf2)
  have HGP : Hid (∀ b, O b → b < p) := fun b hb => by have := (HST.out.lt hb).2; have := HPW.out; omega
  have HW2 := Lib.hid hw2
  have HP := Lib.hid hp
  clear hrd hf1 hf2 hp hw2 c0
  go_upto_region 4 with fail
  rw [← HW2.out, ← HP.out]
  clear HW2 HP
  have a0 : w2.cell? ⟨p, 0, none⟩ = some (.bool v.has) := HP2.out.cell 0
  have a1 : w2.cell? ⟨p, 1, none⟩ = some (.slice v.va v.vn v.vc) := HP2.out.cell 1
  have a2 : w2.cell? ⟨p, 2, none⟩ = some (.int .i64 v.home) := HP2.out.cell 2
  have a3 : w2.cell? ⟨p, 3, none⟩ = some (.int .u64 (v.count : Int)) := HP2.out.cell 3
  by_cases hc : r.count = 18446744073709551615
  · have HEE : Hid (moveE n rs key home = 111) := HE.out.trans ((if_neg (by have := HNN0.out; omega)).trans (if_pos hc))
    have hcv : (v.count : Int) = 18446744073709551615 := by rw [HRD.out.count, hc]; rfl
    have hcb : ((v.count : Int) == 18446744073709551615) = true := by rw [hcv]; rfl
    go_wp2_with fail
    go_ret
    refine ⟨by rw [HEE.out]; rfl, ?_⟩
    rw [HRR.out, HEE.out]
    exact HST.out.stay HF2.out
  have HEE : Hid (moveE n rs key home = 0) := HE.out.trans ((if_neg (by have := HNN0.out; omega)).trans (if_neg hc))
  have hcv : ¬ v.count = 18446744073709551615 := by rw [HRD.out.count]; exact hc
  have hcb : ((v.count : Int) == 18446744073709551615) = false := beq_eq_false_iff_ne.2 (by omega)
  have hwr : ((v.count : Int) + 1) % 18446744073709551616 = (v.count : Int) + 1 := by have h1 := HRD.out.count; have h2 := HCT.out; omega
  have hwr2 : IntKind.u64.wrap ((v.count : Int) + 1) = (v.count : Int) + 1 := hwr
  have HC1 : Hid (r.count + 1 < 2 ^ 64) := by have h2 := HCT.out; show _ < _; omega
  obtain ⟨u, hu⟩ : ∃ u : VaR, u = ⟨v.has, v.va, v.vn, v.vc, home, v.count + 1⟩ := ⟨_, rfl⟩
  obtain ⟨W3, hW3⟩ : ∃ W, W = w2.setCell ⟨p, 2, none⟩ (.int .i64 home) := ⟨_, rfl⟩
  have hx3 : Fr (fun j => j = p) w2 W3 := by rw [hW3]; exact (Fr.refl (fun j => j = p) w2).setCell (p := ⟨p, 2, none⟩) (fun _ => rfl) _
  have HP3 : Hid (Bk W3 p 38 #[.bool v.has, .slice v.va v.vn v.vc, .int .i64 home, .int .u64 (v.count : Int)]) := by show Bk _ _ _ _; rw [hW3]; exact HP2.out.put 2 _
  obtain ⟨W4, hW4⟩ : ∃ W, W = W3.setCell ⟨p, 3, none⟩ (.int .u64 ((v.count : Int) + 1)) := ⟨_, rfl⟩
  have hx4 : Fr (fun j => j = p) w2 W4 := by rw [hW4]; exact hx3.setCell (p := ⟨p, 3, none⟩) (fun _ => rfl) _
  have HP4 : Hid (Bk W4 p 38 #[.bool u.has, .slice u.va u.vn u.vc, .int .i64 u.home, .int .u64 (u.count : Int)]) := by
    show Bk _ _ _ _
    rw [hW4, hu]
    have e1 : ((v.count + 1 : Nat) : Int) = (v.count : Int) + 1 := by omega
    dsimp only
    rw [e1]
    refine Bk.cast (HP3.out.put 3 (.int .u64 ((v.count : Int) + 1))) ?_
    simp only [List.setIfInBounds_toArray, List.set_cons_zero, List.set_cons_succ]
  have hnb : ∀ j, Byt w2 j → ¬ j = p := fun j hj e => Byt.no HP2.out (by decide) (e ▸ hj)
  have HKP := Lib.hid (rset_any W4 B g O n rs (HST2.out.fr hx4 (fun b hb e => by have := HGP.out b hb; omega) hnb) HLEN.out key u ⟨r.has, r.val, home, r.count + 1⟩
    (by
      rw [hu]
      have h := HRD.out.fr hx4 hnb
      exact ⟨h.has, rfl, by show v.count + 1 = r.count + 1; rw [h.count], h.len, h.nil, h.rd, h.byt⟩) HC1.out)
  have HX4 := Lib.hid hx4
  have b2 := HP2.out.free 2
  have d3 : W3.cell? ⟨p, 3, none⟩ = some (.int .u64 (v.count : Int)) := HP3.out.cell 3
  have e3 := HP3.out.free 3
  have HW3 := Lib.hid hW3
  have HW4 := Lib.hid hW4
  have HWR := Lib.hid hwr
  clear hu hW3 hW4 hx3 hx4 hnb hc hcv hwr
  go_upto_region 7 with fail
  rw [← HW3.out]
  clear HW3 a0 a1 a2 a3 b2
  go_upto_region 8 with fail
  rw [← HW4.out]
  clear HW4 d3 e3
  have a0 : W4.cell? ⟨p, 0, none⟩ = some (.bool u.has) := HP4.out.cell 0
  have a1 : W4.cell? ⟨p, 1, none⟩ = some (.slice u.va u.vn u.vc) := HP4.out.cell 1
  have a2 : W4.cell? ⟨p, 2, none⟩ = some (.int .i64 u.home) := HP4.out.cell 2
  have a3 : W4.cell? ⟨p, 3, none⟩ = some (.int .u64 (u.count : Int)) := HP4.out.cell 3
  unfold vaR at HKP
  go_wp2_with fail
  refine HKP.out.mono ?_
  clear HKP
  rintro e w5 ⟨⟨x, rfl⟩, hkp⟩
  have HKP := Lib.hid hkp
  clear hkp
  go_wp2_with fail
  go_ret
  have hh : RSetPost W4 B g n (rset rs key ⟨r.has, r.val, home, r.count + 1⟩) (.returned x) w5 := ⟨⟨_, rfl⟩, HKP.out⟩
  obtain ⟨_, O3, h3, h4⟩ := hh.boxed HF2.out HX4.out HPW.out
  refine ⟨by rw [HEE.out]; rfl, O3, ?_, h4.1, fun b hb => (h4.2 b hb).imp (fun e => by rw [e]; exact HST.out.self) id⟩
  rw [HRR.out, if_pos HEE.out]
  exact h3
end Go.Proofs.Ytkdcacajacndmaa

namespace Go.Proofs.Ytkdcacajacndmaa
open Go.RowKit
/-- is a row told by Range? -/
def inR (key : Bs) (x : Rw) : Bool := !Op.bytesLess x.1 key && x.2.has
def rrange (key : Bs) (most : Int) (rs : List Rw) : List Rw := (rs.filter (inR key)).take most.toNat
def inZ (key : Bs) (z : Zr) : Bool := !Op.bytesLess z.1 key && z.2.2.has
def zrange (key : Bs) (most : Int) (zs : List Zr) : List Zr := (zs.filter (inZ key)).take most.toNat
theorem rz_range (key : Bs) (most : Int) (zs : List Zr) : rz (zrange key most zs) = rrange key most (rz zs) := by
  unfold rrange zrange rz
  rw [List.map_take, List.filter_map]
  rfl
theorem zrange_mem {key : Bs} {most : Int} {zs : List Zr} {z : Zr} (h : z ∈ zrange key most zs) : z ∈ zs := (List.mem_filter.1 (List.mem_of_mem_take h)).1
theorem zrange_le (key : Bs) (most : Int) (zs : List Zr) : (zrange key most zs).length ≤ zs.length := by
  unfold zrange
  rw [List.length_take]
  have := List.length_filter_le (inZ key) zs
  omega
theorem zrange_yes {key : Bs} {most : Int} {pre : List Zr} {z : Zr} (hz : inZ key z = true) (hl : ((zrange key most pre).length : Int) < most) : zrange key most (pre ++ [z]) = zrange key most pre ++ [z] := by
  unfold zrange at hl ⊢
  rw [List.filter_append, List.filter_cons, if_pos hz, List.filter_nil]
  rw [List.length_take] at hl
  rw [List.take_of_length_le (l := pre.filter (inZ key)) (by omega), List.take_of_length_le (by rw [List.length_append, List.length_singleton]; omega)]
theorem zrange_no {key : Bs} {most : Int} {pre : List Zr} {z : Zr} (hz : inZ key z = false ∨ ¬ ((zrange key most pre).length : Int) < most) : zrange key most (pre ++ [z]) = zrange key most pre := by
  unfold zrange at hz ⊢
  rw [List.filter_append, List.filter_cons]
  rcases hz with hz | hz
  · rw [hz]
    simp
  · rw [List.length_take] at hz
    rw [List.take_append_of_le_length (by omega)]
def RangePost [Ex] (w : World) (rs : List Rw) (e : Ending) (w' : World) : Prop :=
  ∃ A c zs, e = .returned (.slice A zs.length c) ∧ w'.ownsRow w.heap.size 61 5 (.slice A zs.length c) zs.length (itsR (vz zs)) ∧ rz zs = rs ∧ (∀ z ∈ zs, Reads w' z.2.1 z.2.2) ∧ Fr NoBlk w w'
structure RngL (w0 wr : World) (A' : Option Addr) (c' m : Nat) (out : List Zr) : Prop where
  len : m = out.length
  own : wr.ownsRow w0.heap.size 61 5 (.slice A' m c') m (itsR (vz out))
  fr : Fr NoBlk w0 wr
set_option maxRecDepth 100000 in
set_option maxHeartbeats 1000000 in
theorem rrange_any [Ex] (w0 : World) (B g : Nat) (O : Nat → Prop) (n : Nat) (rs : List Rw) (h : RSt w0 B g O n rs) (hlen : rs.length ≤ 99999) (key : Bs) (most : Int) :
    Calls Try.prog 35 #[.pointer (some ⟨g, 0, none⟩), .string (bstr key), .int .i64 most] w0 (RangePost w0 (rrange key most rs)) := by
  obtain ⟨A, c, zs, hs, hO, rfl⟩ := h
  obtain ⟨i0, hi, hz0, hz1, hz2⟩ := info_parts rowInfo
  obtain ⟨N, hN⟩ : ∃ N, N = zs.length := ⟨_, rfl⟩
  have HN := Lib.hid hN
  have hnn : N ≤ 99999 := by rw [hN, ← rz_len]; exact hlen
  have HS0 := Lib.hid hs
  obtain ⟨q, hq⟩ : ∃ q, q = w0.heap.size := ⟨_, rfl⟩
  obtain ⟨w1, hw1⟩ : ∃ w1, w1 = w0.alloc (.cells #[] 61) := ⟨_, rfl⟩
  have HI1 : Hid (RngL w0 w1 (some ⟨q, 0, none⟩) 0 0 (zrange key most (zs.take 0))) := by
    have e : zrange key most (zs.take 0) = [] := by unfold zrange; simp
    show RngL _ _ _ _ _ _
    rw [e]
    exact ⟨rfl, own_litW 5 (by rw [hw1, hq]; exact Bk.new _ _ _) (by rw [hq]; exact Nat.le_refl _), by rw [hw1]; exact (Fr.refl _ _).alloc _⟩
  have HW1 := Lib.hid hw1
  have HQ := Lib.hid hq
  clear hs hO hlen hN hw1 hq
  go_enter Try.func35, Try.ntmps35
  go_upto_region 2 with fail
  rw [← HW1.out, ← HQ.out]
  clear HW1 HQ
  go_wp2_with fail
  go_loopw [7, 8] (fun o z wr => ∃ (k : Nat) (A' : Option Addr) (c' m : Nat), o = .slice A' m c' ∧ z = .int .i64 (k : Int) ∧ k ≤ N ∧ Hid (RngL w0 wr A' c' m (zrange key most (zs.take k)))) (fun _ z _ => N - (intOf z).toNat)
  case atStart => exact ⟨0, some ⟨q, 0, none⟩, 0, 0, rfl, rfl, Nat.zero_le _, HI1.out⟩
  case round =>
    obtain ⟨k, A', c', m, rfl, rfl, hk, HI⟩ := hrel
    clear HI1
    have hw2 : IntKind.i64.wrap ((k : Int) + 1) = ((k + 1 : Nat) : Int) := by rw [IntWalk.i64_in _ (by omega)]; omega
    have HMB : Hid (m ≤ 100000) := by
      have h1 := zrange_le key most (zs.take k)
      have h2 := HI.out.len
      rw [List.length_take] at h1
      show m ≤ 100000
      omega
    have HOW : Hid (wr.ownsRow w0.heap.size 61 5 (.slice A' m c') m (itsR (vz (zrange key most (zs.take k))))) := HI.out.own
    have HFR : Hid (Fr NoBlk w0 wr) := HI.out.fr
    have HSW := Lib.hid (HS0.out.nofr HI.out.fr)
    have c1 : wr.cell? ⟨g, 1, none⟩ = some (.slice A N c) := by rw [HN.out]; exact HSW.out.bk.cell 1
    by_cases hlt : k < N
    · obtain ⟨z, hz⟩ : ∃ z, zs[k]? = some z := ⟨_, List.getElem?_eq_getElem (by rw [← HN.out]; exact hlt)⟩
      have hvz : (vz zs)[k]? = some (z.1, z.2.1) := by unfold vz; rw [List.getElem?_map, hz]; rfl
      obtain ⟨b, o, hA, d0, d1, d2, d3, d4⟩ := (Rd.of_ownW HSW.out.own).itR hvz
      subst hA
      have HTK : Hid (zs.take (k + 1) = zs.take k ++ [z]) := by show _ = _; rw [List.take_add_one, hz]; rfl
      have hzr := (HS0.out.rd z (List.mem_of_getElem? hz)).has
      clear hz hvz
      obtain ⟨zk, zv, zr⟩ := z
      dsimp only at d0 d1 d2 d3 d4 hzr
      have NO : Hid (inZ key (zk, (zv, zr)) = false ∨ ¬ (m : Int) < most → RngL w0 wr A' c' m (zrange key most (zs.take (k + 1)))) := fun h => by
        rw [HTK.out, zrange_no (by rw [← HI.out.len]; exact h)]
        exact HI.out
      cases hls : Op.bytesLess zk key with
      | true =>
        have HY := Lib.hid (NO.out (.inl (by unfold inZ; rw [hls]; rfl)))
        have hl1 : Op.bytesLess (bstr zk).toList (bstr key).toList = true := by rw [bstr_toList, bstr_toList]; exact hls
        clear hls NO hzr
        go_wp2_with fail
        go_roundw
        case rel => exact ⟨k + 1, A', c', m, rfl, by go_num, by omega, HY⟩
        case measure => simp [intOf]; omega
      | false =>
        have hl1 : Op.bytesLess (bstr zk).toList (bstr key).toList = false := by rw [bstr_toList, bstr_toList]; exact hls
        obtain ⟨zh, za, zn, zc, zm, zt⟩ := zv
        dsimp only at d1 d2 d3 d4 hzr
        cases zh with
        | false =>
          have HY := Lib.hid (NO.out (.inl (by unfold inZ; rw [hls]; exact hzr.symm)))
          clear hls NO hzr
          go_wp2_with fail
          go_roundw
          case rel => exact ⟨k + 1, A', c', m, rfl, by go_num, by omega, HY⟩
          case measure => simp [intOf]; omega
        | true =>
          by_cases hmm : (m : Int) < most
          · have HYS : Hid (zrange key most (zs.take (k + 1)) = zrange key most (zs.take k) ++ [(zk, (⟨true, za, zn, zc, zm, zt⟩, zr))]) := by
              show _ = _
              rw [HTK.out]
              exact zrange_yes (by unfold inZ; rw [hls]; exact hzr.symm) (by rw [← HI.out.len]; exact hmm)
            clear hls NO hzr
            have HOA2 : Hid ((wr.alloc (.cells #[.string (bstr zk), .bool true, .slice za zn zc, .int .i64 zm, .int .u64 (zt : Int)] 61)).ownsRow w0.heap.size 61 5 (.slice A' m c') m (itsR (vz (zrange key most (zs.take k))))) := own_fr HOW.out ((Fr.refl NoBlk _).alloc _) fun _ _ h => h
            have HSA2 : Hid (Rd (wr.alloc (.cells #[.string (bstr zk), .bool true, .slice za zn zc, .int .i64 zm, .int .u64 (zt : Int)] 61)) (some ⟨wr.heap.size, 0, none⟩) (itsR [(zk, ⟨true, za, zn, zc, zm, zt⟩)])) := Rd.of_cells (Bk.new wr 61 #[.string (bstr zk), .bool true, .slice za zn zc, .int .i64 zm, .int .u64 (zt : Int)])
            have HZA2 : Hid (w0.heap.size ≤ (wr.alloc (.cells #[.string (bstr zk), .bool true, .slice za zn zc, .int .i64 zm, .int .u64 (zt : Int)] 61)).heap.size) := (HFR.out.alloc _).size
            go_wp2_with (at_builtin; go_loud (refine wpList_appW rfl _ _ 40 rfl w0.heap.size 61 i0 _ 5 64 Try.underlying40 hi hz0 hz1 hz2 rfl (by decide) (.slice A' m c') m (itsR (vz (zrange key most (zs.take k)))) rfl HOA2.out (some ⟨wr.heap.size, 0, none⟩) 1 1 (itsR [(zk, ⟨true, za, zn, zc, zm, zt⟩)]) rfl rfl HSA2.out (itsR_one _) (fun e => by cases e) (by unfold maxLen; have := HMB.out; omega) (by have := HMB.out; omega) HZA2.out ?_))
            intro vv2 W2 ho2 hg2 hb2
            obtain ⟨A2, c2, rfl, _, _⟩ := own_form ho2
            have HF2 : Hid (Fr NoBlk w0 W2) := grown_no (HFR.out.alloc _) HOA2.out hg2
            have HO2 := Lib.hid ho2
            clear ho2 hg2 hb2 HOA2 HSA2 HZA2
            go_wp2_with fail
            go_roundw
            case rel =>
              refine ⟨k + 1, A2, c2, m + 1, rfl, by go_num, by omega, ?_⟩
              show RngL _ _ _ _ _ _
              rw [HYS.out]
              refine ⟨by rw [List.length_append, HI.out.len]; rfl, ?_, HF2.out⟩
              have h := HO2.out
              unfold vz at h ⊢
              rw [List.map_append, itsR_append]
              exact h
            case measure => simp [intOf]; omega
          · have HY := Lib.hid (NO.out (.inr hmm))
            clear hls NO hzr
            go_wp2_with fail
            go_roundw
            case rel => exact ⟨k + 1, A', c', m, rfl, by go_num, by omega, HY⟩
            case measure => simp [intOf]; omega
    · have HT : Hid (zs.take k = zs) := by show _ = _; rw [List.take_of_length_le (by rw [← HN.out]; omega)]
      go_wp2_with fail
      go_ret
      have h1 := HI.out.own
      have h2 := HI.out.len
      rw [HT.out] at h1 h2
      refine ⟨A', c', zrange key most zs, by rw [← h2]; rfl, by rw [← h2]; exact h1, rz_range key most zs, fun z hz => (HS0.out.rd z (zrange_mem hz)).nofr HFR.out, HFR.out⟩
end Go.Proofs.Ytkdcacajacndmaa

namespace Go.Proofs.Ytkdcacajacndmaa
open Go.RowKit
theorem less_zero (x l : Bs) : Op.bytesLess x (l ++ [0]) = !Op.bytesLess l x := by
  induction l generalizing x with
  | nil =>
    cases x with
    | nil => rfl
    | cons a t =>
      have h0 : ¬ a < 0 := fun h => absurd h (UInt8.not_lt_zero)
      cases t with
      | nil => simp [Op.bytesLess, h0]
      | cons b t => simp [Op.bytesLess, h0]
  | cons c l ih =>
    cases x with
    | nil => rfl
    | cons a t =>
      show (decide (a < c) || (a == c && Op.bytesLess t (l ++ [0]))) = !(decide (c < a) || (c == a && Op.bytesLess l t))
      rw [ih t]
      by_cases h1 : a < c
      · have h2 : ¬ c < a := fun h => absurd (UInt8.lt_trans h1 h) (UInt8.lt_irrefl _)
        have h3 : (c == a) = false := beq_eq_false_iff_ne.2 fun e => by subst e; exact UInt8.lt_irrefl _ h1
        simp [h1, h2, h3]
      · by_cases h2 : c < a
        · have h3 : (a == c) = false := beq_eq_false_iff_ne.2 fun e => by subst e; exact UInt8.lt_irrefl _ h2
          simp [h1, h2, h3]
        · have h3 : a = c := UInt8.le_antisymm (UInt8.not_lt.1 h2) (UInt8.not_lt.1 h1)
          subst h3
          simp [UInt8.lt_irrefl]
/-- what is behind the last row of a page. -/
theorem page_next {rs : List Rw} (hu : UpI Op.bytesLess rs) (key : Bs) (n : Nat) {last : Rw} (h : (rs.filter (inR key))[n]? = some last) : rs.filter (inR (last.1 ++ [0])) = (rs.filter (inR key)).drop (n + 1) := by
  have hm := List.mem_of_getElem? h
  have hk : inR key last = true := (List.mem_filter.1 hm).2
  have hk1 : Op.bytesLess last.1 key = false := by
    unfold inR at hk
    simp only [Bool.and_eq_true, Bool.not_eq_true'] at hk
    exact hk.1
  have hz : UpI Op.bytesLess (rs.filter (inR key)) := List.Pairwise.filter _ hu
  have h1 : rs.filter (inR (last.1 ++ [0])) = (rs.filter (inR key)).filter fun x => Op.bytesLess last.1 x.1 := by
    rw [List.filter_filter]
    refine List.filter_congr fun x _ => ?_
    unfold inR
    rw [less_zero, Bool.not_not]
    cases hl : Op.bytesLess last.1 x.1 with
    | false => simp
    | true =>
      have hx : Op.bytesLess x.1 key = false := by
        cases he : Op.bytesLess x.1 key with
        | false => rfl
        | true => rw [linS.tr hl he] at hk1; cases hk1
      simp [hx]
  rw [h1]
  generalize rs.filter (inR key) = L at h hz
  have hn := (List.getElem?_eq_some_iff.1 h).1
  have hsp : L = L.take (n + 1) ++ L.drop (n + 1) := (List.take_append_drop _ _).symm
  have ha : ((L.take (n + 1)).filter fun x => Op.bytesLess last.1 x.1) = [] := by
    refine List.filter_eq_nil_iff.2 fun x hx => ?_
    obtain ⟨j, hj, rfl⟩ := List.getElem_of_mem hx
    rw [List.length_take] at hj
    rw [List.getElem_take]
    have he : L[n] = last := by
      rw [List.getElem?_eq_getElem hn] at h
      injection h
    by_cases hjn : j = n
    · subst hjn
      rw [he, linS.irr]
      simp
    · have hp := List.pairwise_iff_getElem.1 hz j n (by omega) hn (by omega)
      rw [he] at hp
      rw [linS.asymm hp]
      simp
  have hb : ((L.drop (n + 1)).filter fun x => Op.bytesLess last.1 x.1) = L.drop (n + 1) := by
    refine List.filter_eq_self.2 fun x hx => ?_
    obtain ⟨j, hj, rfl⟩ := List.getElem_of_mem hx
    rw [List.getElem_drop]
    have he : L[n] = last := by
      rw [List.getElem?_eq_getElem hn] at h
      injection h
    rw [List.length_drop] at hj
    have hp := List.pairwise_iff_getElem.1 hz n (n + 1 + j) hn (by omega) (by omega)
    rw [he] at hp
    exact hp
  have hf : (L.filter fun x => Op.bytesLess last.1 x.1) = ((L.take (n + 1) ++ L.drop (n + 1)).filter fun x => Op.bytesLess last.1 x.1) := by rw [List.take_append_drop]
  rw [hf, List.filter_append, ha, hb, List.nil_append]
theorem range_all {k : Nat} {rs : List Rw} (h : rs.length ≤ k) (hk : k ≤ 1000) : rrange [] 1000 rs = rs.filter (inR []) := by
  unfold rrange
  refine List.take_of_length_le ?_
  have := List.length_filter_le (inR []) rs
  show _ ≤ 1000
  omega
end Go.Proofs.Ytkdcacajacndmaa

namespace Go.Proofs.Ytkdcacajacndmaa
open Go.RowKit
/-- a store behind g with rows rs, the document's behind gm with rows rm. -/
structure PairS [Ex] (W w : World) (g gm n : Nat) (rs rm : List Rw) (O OM : Nat → Prop) : Prop where
  st : Store w g O n rs
  rst : RSt w W.heap.size gm OM n rm
  new : ∀ b, O b → W.heap.size ≤ b
  apart : ∀ b, O b → ¬ OM b
  fr : Fr NoBlk W w
def Pair (W w : World) (g gm n : Nat) (rs : List Rw) : Prop := ∃ O OM o, @PairS ⟨o⟩ W w g gm n rs rs O OM
section
variable [Ex] {W w w' : World} {g gm n : Nat} {rs rm rs' rm' : List Rw} {O O' OM OM' : Nat → Prop}
theorem PairS.nofr (h : PairS W w g gm n rs rm O OM) (hf : Fr NoBlk w w') : PairS W w' g gm n rs rm O OM :=
  ⟨h.st.nofr hf, h.rst.nofr hf, h.new, h.apart, h.fr.trans hf⟩
/-- a call on the store. -/
theorem PairS.stp (h : PairS W w g gm n rs rm O OM) (hs : Store w' g O' n rs') (hp : Stp w w' O O') : PairS W w' g gm n rs' rm O' OM :=
  ⟨hs, h.rst.fr hp.fr (fun b hb e => h.apart b e hb) (fun _ hk e => h.st.nb e hk), fun b hb => (hp.new b hb).elim (h.new b) fun e => Nat.le_trans h.fr.size e,
    fun b hb hm => (hp.new b hb).elim (fun e => h.apart b e hm) fun e => by have := (h.rst.lt hm).2; omega,
    h.fr.step hp.fr fun i hi e => by have := h.new i e; omega⟩
/-- a call on the document's. -/
theorem PairS.rstp (h : PairS W w g gm n rs rm O OM) (hr : RSt w' W.heap.size gm OM' n rm') (hf : Fr (fun b => b = gm) w w') (hn : ∀ b, OM' b → OM b ∨ w.heap.size ≤ b) : PairS W w' g gm n rs rm' O OM' := by
  have hg := h.rst.self
  have hl := h.rst.lt hg
  exact ⟨h.st.fr hf (fun b hb e => h.apart b hb (e ▸ hg)) (fun _ hk e => h.rst.nb hg (e ▸ hk)), hr, h.new,
    fun b hb hm => (hn b hm).elim (h.apart b hb) fun e => by have := h.st.lt hb; omega,
    h.fr.step hf fun i hi e => by have := hl.1; omega⟩
/-- the block that neither holds is written over. -/
theorem PairS.spoil {x : Nat} (h : PairS W w g gm n rs rm O OM) (he : Ex.x = some x) (hf : Fr (fun b => b = x) w w') (hx : W.heap.size ≤ x) (hb : Byt w x) : PairS W w' g gm n rs rm O OM :=
  ⟨h.st.frx hf (fun _ hk e => h.st.nb hk (e ▸ hb)) (fun _ _ hk e => hk (by rw [he, e])), h.rst.frx hf (fun _ hk e => h.rst.nb hk (e ▸ hb)) (fun _ _ hk e => hk (by rw [he, e])), h.new, h.apart,
    h.fr.step hf fun i hi e => by omega⟩
/-- another block, made since. -/
theorem PairS.other {q : Option Nat} (h : PairS W w g gm n rs rm O OM) (hf : Fr NoBlk w w') (hx : ∀ k, q = some k → w.heap.size ≤ k ∧ k < w'.heap.size) : @PairS ⟨q⟩ W w' g gm n rs rm O OM :=
  @PairS.mk ⟨q⟩ _ _ _ _ _ _ _ _ _ (h.st.other hf (fun k e => (hx k e).1) (fun k e => (hx k e).2)) (h.rst.other hf (fun k e => (hx k e).1) (fun k e => (hx k e).2)) h.new h.apart (h.fr.trans hf)
theorem PairS.change (h : PairS W w g gm n rs rm O OM) (hf : Fr NoBlk w w') (E : Ex) (hx : ∀ k, E.x = some k → w.heap.size ≤ k ∧ k < w'.heap.size) : @PairS E W w' g gm n rs rm O OM := by
  obtain ⟨q⟩ := E
  exact h.other hf hx
end
theorem Pair.nofr {W w w' : World} {g gm n : Nat} {rs : List Rw} (h : Pair W w g gm n rs) (hf : Fr NoBlk w w') : Pair W w' g gm n rs := by
  obtain ⟨O, OM, o, h⟩ := h
  exact ⟨O, OM, o, @PairS.nofr ⟨o⟩ _ _ _ _ _ _ _ _ _ _ h hf⟩
/-- rows after k calls of small operations. -/
def Lim (k : Nat) (rs : List Rw) : Prop := rs.length ≤ k ∧ ∀ z ∈ rs, z.2.val.length ≤ 500 ∧ z.2.count ≤ k ∧ z.1.length ≤ 500
theorem Lim.up {k : Nat} {rs : List Rw} (h : Lim k rs) : Lim (k + 1) rs := ⟨by have := h.1; omega, fun z hz => ⟨(h.2 z hz).1, by have := (h.2 z hz).2.1; omega, (h.2 z hz).2.2⟩⟩
theorem Lim.put {k : Nat} {rs : List Rw} {key : Bs} {r : Rec} (h : Lim k rs) (hk : key.length ≤ 500) (hr : r.val.length ≤ 500 ∧ r.count ≤ k + 1) : Lim (k + 1) (rset rs key r) := by
  refine ⟨by have := rset_le rs key r; have := h.1; omega, fun z hz => ?_⟩
  have hm : z = (key, r) ∨ z ∈ rs := by
    unfold rset at hz
    split at hz
    · exact mem_putL' hz
    · exact .inr (mem_delL' hz)
  rcases hm with rfl | hm
  · exact ⟨hr.1, hr.2, hk⟩
  · exact h.up.2 z hm
theorem Lim.get {k : Nat} {rs : List Rw} (h : Lim k rs) (n : Int) (key : Bs) : (rget n rs key).val.length ≤ 500 ∧ (rget n rs key).count ≤ k := by
  unfold rget
  cases hf : rs.find? fun x => x.1 == key with
  | none => exact ⟨Nat.zero_le _, Nat.zero_le _⟩
  | some x => exact ⟨(h.2 x (List.mem_of_find?_eq_some hf)).1, (h.2 x (List.mem_of_find?_eq_some hf)).2.1⟩
theorem Lim.move {k n : Nat} {rs : List Rw} (h : Lim k rs) {key : Bs} (hk : key.length ≤ 500) (home : Int) : Lim (k + 1) (moveR n rs key home) := by
  unfold moveR
  have h1 := h.get n key
  split
  · exact h.put hk ⟨h1.1, Nat.succ_le_succ h1.2⟩
  · exact h.up
theorem Lim.val {k : Nat} {rs : List Rw} (h : Lim k rs) : ∀ x ∈ rs, x.2.val.length ≤ 1000000000 := fun x hx => by have := (h.2 x hx).1; omega
/-- the document's store lies behind a lower bound too. -/
theorem RSt.low [Ex] {w : World} {B B' g n : Nat} {O : Nat → Prop} {rs : List Rw} (h : RSt w B g O n rs) (hb : B' ≤ B) : RSt w B' g O n rs := by
  obtain ⟨A, c, zs, h, hO, e⟩ := h
  exact ⟨A, c, zs, ⟨h.bk, own_base h.own hb, h.rd, h.up, Nat.le_trans hb h.ge, h.n3, h.cnt, h.lx⟩, hO, e⟩
/-- both new. -/
theorem pair_new [E : Ex] {W w w' : World} {g gm n : Nat} {O OM : Nat → Prop} (hs : Store w g O n []) (hO : ∀ b, O b → W.heap.size ≤ b) (hf : Fr NoBlk W w) (hr : RSt w' w.heap.size gm OM n []) (hf2 : Fr NoBlk w w') : Pair W w' g gm n [] :=
  ⟨O, OM, E.x, hs.nofr hf2, hr.low hf.size, hO, fun b hb hm => by
    have h1 := hs.lt hb
    have h2 := (hr.lt hm).1
    omega, hf.trans hf2⟩
theorem Lim.nil : Lim 0 [] := ⟨Nat.le_refl _, fun z hz => by cases hz⟩
end Go.Proofs.Ytkdcacajacndmaa
