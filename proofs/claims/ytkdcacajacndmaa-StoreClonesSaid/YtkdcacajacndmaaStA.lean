/- Default, New. Conditions: a key of at most 10^9 bytes. A key's record, a copy of a record, Get; is a record a row? Conditions: a key of at most 10^9 bytes. A copy of a record; Get; is a record a row? Conditions: values of at most 10^9 bytes. keep, Put, Delete, Move. Conditions: at most 99999 rows; keys of at most 10^9 bytes. Put, Delete, Move. Conditions: at most 99999 rows; keys and values of at most 10^9 bytes. Move. Conditions: at most 99999 rows; keys of at most 10^9 bytes. -/
import Derived.Test.YtkdcacajacndmaaSb
import Derived.Test.YtkdcacajacndmaaN6R
import Derived.BigQuiet
import Derived.Test.YtkdcacajacndmaaN16R
import Derived.Deep.DeepCutAuto
namespace Go.Proofs.Ytkdcacajacndmaa
open Go.RowKit
def sumB (key : Bs) (k : Nat) : Nat := ((key.take k).map fun b => b.toNat).sum
theorem sumB_succ (key : Bs) {k : Nat} {x : UInt8} (h : key[k]? = some x) : sumB key (k + 1) = sumB key k + x.toNat := by
  unfold sumB
  rw [List.take_add_one, h]
  simp
theorem sumB_le (key : Bs) (k : Nat) : sumB key k ≤ k * 255 := by
  induction k with
  | zero => exact Nat.le_refl _
  | succ k ih =>
    rcases Nat.lt_or_ge k key.length with h | h
    · rw [sumB_succ key (List.getElem?_eq_getElem h)]
      have := key[k].toNat_lt
      omega
    · have e : sumB key (k + 1) = sumB key k := by unfold sumB; rw [List.take_of_length_le h, List.take_of_length_le (by omega)]
      omega
set_option maxRecDepth 100000 in
set_option maxHeartbeats 400000 in
theorem default_any (w : World) (key : Bs) (n : Int) (hk : key.length ≤ 1000000000) :
    Calls Try.prog 20 #[.string (bstr key), .int .i64 n] w fun e w' => e = .returned (.int .i64 (homeOf key n)) ∧ w = w' := by
  by_cases hn : n < 1
  · have HE : Hid (homeOf key n = 0) := if_pos hn
    clear hk
    go_enter Try.func20, Try.ntmps20
    go_wp2_with fail
    go_ret
    exact ⟨by rw [HE.out]; rfl, rfl⟩
  · have HE : Hid (homeOf key n = (sumB key key.length : Int) % n) := by show (if n < 1 then _ else _) = _; rw [if_neg hn, sumB, List.take_length]
    have HN : Hid (¬ n < 1) := hn
    have hs : (bstr key).size = key.length := by simp [bstr, ByteArray.size]
    obtain ⟨L, hL⟩ : ∃ L, L = key.length := ⟨_, rfl⟩
    rw [← hL] at hs
    have HL := Lib.hid hL
    have HK : Hid (L ≤ 1000000000) := by show _ ≤ _; rw [hL]; exact hk
    clear hk hL
    go_enter Try.func20, Try.ntmps20
    go_wp2_with fail
    go_loopw [5, 11] (fun s c wr => ∃ k : Nat, s = .int .i64 (sumB key k : Int) ∧ c = .int .i64 (k : Int) ∧ k ≤ L ∧ w = wr) (fun _ c _ => L - (intOf c).toNat)
    case atStart => exact ⟨0, rfl, rfl, Nat.zero_le _, rfl⟩
    case round =>
      obtain ⟨k, rfl, rfl, hk, rfl⟩ := hrel
      by_cases hlt : k < L
      · obtain ⟨x, hx⟩ : ∃ x, key[k]? = some x := ⟨_, List.getElem?_eq_getElem (by rw [← HL.out]; exact hlt)⟩
        have hb : ∀ h : k < (bstr key).size, (bstr key)[k]'h = x := fun h => by
          have h1 : (bstr key).data[k]? = some x := by
            show key.toArray[k]? = some x
            rw [List.getElem?_toArray]
            exact hx
          exact (Array.getElem?_eq_some_iff.1 h1).2
        have HB := Lib.hid hb
        have HW : Hid (wrap64 ((sumB key k : Int) + wrap64 (x.toNat : Int)) = ((sumB key (k + 1) : Nat) : Int)) := by
          have h1 := sumB_le key (k + 1)
          have h2 := HK.out
          have h3 := x.toNat_lt
          show _ = _
          rw [sumB_succ key hx] at h1 ⊢
          unfold wrap64
          omega
        clear hx hb
        have hw2 : IntKind.i64.wrap ((k : Int) + 1) = ((k + 1 : Nat) : Int) := by have := HK.out; rw [IntWalk.i64_in _ (by omega)]; omega
        go_wp2_with fail
        go_roundw
        case rel => exact ⟨k + 1, by rw [HB.out, HW.out], by go_num, by omega, trivial⟩
        case measure => simp [intOf]; omega
      · obtain rfl : k = L := by omega
        have HE2 : Hid ((sumB key k : Int) % n = homeOf key n) := by show _ = _; rw [HE.out, ← HL.out]
        have hn0 : (n == 0) = false := beq_eq_false_iff_ne.2 (by have := HN.out; omega)
        have hn0' : ¬ n = 0 := by have := HN.out; omega
        clear HE
        go_wp2_with fail
        go_ret
        refine ⟨?_, rfl⟩
        rw [← HE2.out]
        rfl
/-- New: of 1 to 3 regions a store without rows. -/
def NewPost [Ex] (w : World) (n : Int) (e : Ending) (w' : World) : Prop :=
  (1 ≤ n ∧ n ≤ 3 ∧ ∃ g O, e = .returned (.tuple #[.pointer (some ⟨g, 0, none⟩), .int .i64 0]) ∧ Store w' g O n.toNat [] ∧ (∀ b, O b → w.heap.size ≤ b) ∧ Fr NoBlk w w') ∨
  (¬ (1 ≤ n ∧ n ≤ 3) ∧ e = .returned (.tuple #[.pointer none, .int .i64 1]) ∧ w = w')
set_option maxRecDepth 100000 in
theorem snew_any [Ex] (w : World) (hx : ExL w.heap.size) (n : Int) : Calls Try.prog 12 #[.int .i64 n] w (NewPost w n) := by
  have HX := Lib.hid hx
  clear hx
  by_cases h1 : n < 1
  · have HN : Hid (¬ (1 ≤ n ∧ n ≤ 3)) := fun h => by omega
    go_enter Try.func12, Try.ntmps12
    go_wp2_with fail
    go_ret2
    exact .inr ⟨HN.out, rfl, rfl⟩
  · by_cases h2 : 3 < n
    · have HN : Hid (¬ (1 ≤ n ∧ n ≤ 3)) := fun h => by omega
      have h3 : ¬ n ≤ 3 := by omega
      go_enter Try.func12, Try.ntmps12
      go_wp2_with fail
      go_ret2
      exact .inr ⟨HN.out, rfl, rfl⟩
    · have HN : Hid (1 ≤ n ∧ n ≤ 3) := ⟨by omega, by omega⟩
      have h3 : n ≤ 3 := by omega
      go_enter Try.func12, Try.ntmps12
      go_wp2_with fail
      refine (newR_any w).mono ?_
      rintro e w1 ⟨gt, O, rfl, ht, hO, hf⟩
      have HT := Lib.hid ht
      have HO := Lib.hid hO
      have HF := Lib.hid hf
      clear ht hO hf
      go_wp2_with fail
      go_ret2
      refine .inl ⟨HN.out.1, HN.out.2, w1.heap.size, fun b => b = w1.heap.size ∨ O b, ?_, ⟨gt, O, [], ⟨?_, HT.out.nofr ((Fr.refl _ _).alloc _), fun z hz => (by cases hz), fun b => Iff.rfl, fun h => by have := HT.out.lt h; omega, by have := HN.out; omega, fun z hz => (by cases hz), HX.out.le (HF.out.alloc _).size⟩, rfl⟩, fun b hb => ?_, HF.out.alloc _⟩
      · rfl
      · have e : ((n.toNat : Nat) : Int) = n := by have := HN.out; omega
        rw [e]
        exact Bk.new _ _ _
      · rcases hb with rfl | hb
        · exact HF.out.size
        · exact HO.out b hb
end Go.Proofs.Ytkdcacajacndmaa

namespace Go.Proofs.Ytkdcacajacndmaa
open Go.RowKit
theorem results_cellQ {fn : Func} {p : Tmp} {t : TypeId} (h : fn.results = #[.cell p t]) (tmps : Array Value) (P : Program) (w : World) :
    (results fn tmps).run P w = ((asAddr (tmps.getD p undef)).run P w).andThen fun a w₁ => (loadVar t a).run P w₁ := by
  simp only [results, h]
  simp [Sem.run_bind, Result.andThen]
def vaR (v : VaR) : Value := .agg #[.bool v.has, .slice v.va v.vn v.vc, .int .i64 v.home, .int .u64 (v.count : Int)]
def RecPost [Ex] (w : World) (r : Rec) (e : Ending) (w' : World) : Prop := ∃ v, e = .returned (vaR v) ∧ Reads w' v r ∧ Fr NoBlk w w'
set_option maxRecDepth 100000 in
set_option maxHeartbeats 1000000 in
theorem srecord_any [Ex] (w : World) (g : Nat) (O : Nat → Prop) (n : Nat) (rs : List Rw) (h : Store w g O n rs) (key : Bs) (hk : key.length ≤ 1000000000) :
    Calls Try.prog 38 #[.pointer (some ⟨g, 0, none⟩), .string (bstr key)] w (RecPost w (rget n rs key)) := by
  obtain ⟨gt, OT, zs, hs, rfl⟩ := h
  obtain ⟨q, hq⟩ : ∃ q, q = w.heap.size := ⟨_, rfl⟩
  obtain ⟨w0, hw0⟩ : ∃ w0, w0 = w.alloc (.cells #[.bool false, .slice none 0 0, .int .i64 0, .int .u64 0] 38) := ⟨_, rfl⟩
  have hf0 : Fr NoBlk w w0 := by rw [hw0]; exact (Fr.refl _ _).alloc _
  have HQ0 : Hid (Bk w0 q 38 #[.bool false, .slice none 0 0, .int .i64 0, .int .u64 0]) := by show Bk _ _ _ _; rw [hw0, hq]; exact Bk.new _ _ _
  have HS0 := Lib.hid (hs.fr hf0 (fun _ _ e => e) fun _ _ e => e)
  have HQ := Lib.hid hq
  have HGQ : Hid (g < q) := by show _ < _; rw [hq]; exact hs.bk.lt
  have HW0 := Lib.hid hw0
  have HF0 := Lib.hid hf0
  have HK := Lib.hid hk
  have c1 : w0.cell? ⟨g, 1, none⟩ = some (.pointer (some ⟨gt, 0, none⟩)) := HS0.out.bk.cell 1
  clear hs hq hw0 hf0 hk
  go_enter Try.func38, Try.ntmps38
  go_upto_region 1 with fail
  rw [← HW0.out, ← HQ.out]
  clear HW0
  go_wp2_with fail
  refine (treeGetR_any w0 gt OT (vz zs) HS0.out.tr key).mono ?_
  rintro e w1 ⟨v, had, rfl, hlk, hf1⟩
  have HLK := Lib.hid hlk
  have HF1 := Lib.hid hf1
  obtain ⟨p, hp⟩ : ∃ p, p = w1.heap.size := ⟨_, rfl⟩
  obtain ⟨w2, hw2⟩ : ∃ W, W = w1.alloc (.cells #[.bool v.has, .slice v.va v.vn v.vc, .int .i64 v.home, .int .u64 (v.count : Int)] 38) := ⟨_, rfl⟩
  have hf2 : Fr NoBlk w1 w2 := by rw [hw2]; exact (Fr.refl _ _).alloc _
  have HP2 : Hid (Bk w2 p 38 #[.bool v.has, .slice v.va v.vn v.vc, .int .i64 v.home, .int .u64 (v.count : Int)]) := by show Bk _ _ _ _; rw [hw2, hp]; exact Bk.new _ _ _
  have HQ2 : Hid (Bk w2 q 38 #[.bool false, .slice none 0 0, .int .i64 0, .int .u64 0]) := (HQ0.out.fr hf1 fun e => e).fr hf2 fun e => e
  have HS2 := Lib.hid ((HS0.out.fr hf1 (fun _ _ e => e) fun _ _ e => e).fr hf2 (fun _ _ e => e) fun _ _ e => e)
  have HF02 : Hid (Fr NoBlk w w2) := (HF0.out.trans hf1).trans hf2
  have HPQ : Hid (q < p ∧ w.heap.size = q) := ⟨by rw [hp]; exact (HQ0.out.fr hf1 fun e => e).lt, HQ.out.symm⟩
  have HW2 := Lib.hid hw2
  have HP := Lib.hid hp
  clear hlk hf1 hf2 hp hw2 c1 HQ
  cases had with
  | true =>
    have HR : Hid (Reads w2 v (rget n (rz zs) key)) := by
      obtain ⟨z, hz, e⟩ := List.mem_map.1 HLK.out.some_of
      obtain ⟨k, v', r⟩ := z
      injection e with e1 e2
      have e1' : k = key := e1
      have e2' : v' = v := e2
      subst e1' e2'
      show Reads _ _ _
      rw [rget_yes (rz_up HS0.out.tr.up) (List.mem_map.2 ⟨_, hz, rfl⟩)]
      exact HS2.out.rd _ hz
    go_upto_region 2 with fail
    rw [← HW2.out, ← HP.out]
    clear HW2 HP
    have a0 : w2.cell? ⟨p, 0, none⟩ = some (.bool v.has) := HP2.out.cell 0
    have a1 : w2.cell? ⟨p, 1, none⟩ = some (.slice v.va v.vn v.vc) := HP2.out.cell 1
    have a2 : w2.cell? ⟨p, 2, none⟩ = some (.int .i64 v.home) := HP2.out.cell 2
    have a3 : w2.cell? ⟨p, 3, none⟩ = some (.int .u64 (v.count : Int)) := HP2.out.cell 3
    have z0 : w2.cell? ⟨q, 0, none⟩ = some (.bool false) := HQ2.out.cell 0
    have z1 : w2.cell? ⟨q, 1, none⟩ = some (.slice none 0 0) := HQ2.out.cell 1
    have z2 : w2.cell? ⟨q, 2, none⟩ = some (.int .i64 0) := HQ2.out.cell 2
    have z3 : w2.cell? ⟨q, 3, none⟩ = some (.int .u64 0) := HQ2.out.cell 3
    have zf0 := HQ2.out.free 0
    have zf1 := HQ2.out.free 1
    have zf2 := HQ2.out.free 2
    have zf3 := HQ2.out.free 3
    obtain ⟨W4, hW4⟩ : ∃ W, W = ((((w2).setCell ⟨q, 0, none⟩ (.bool v.has)).setCell ⟨q, 1, none⟩ (.slice v.va v.vn v.vc)).setCell ⟨q, 2, none⟩ (.int .i64 v.home)).setCell ⟨q, 3, none⟩ (.int .u64 (v.count : Int)) := ⟨_, rfl⟩
    have hxW4 : Fr (fun k => k = q) w2 W4 := by
      rw [hW4]
      exact ((((Fr.refl (fun k => k = q) w2).setCell (p := ⟨q, 0, none⟩) (fun _ => rfl) _).setCell (p := ⟨q, 1, none⟩) (fun _ => rfl) _).setCell (p := ⟨q, 2, none⟩) (fun _ => rfl) _).setCell (p := ⟨q, 3, none⟩) (fun _ => rfl) _
    have HBW4 : Hid (Bk W4 q 38 #[.bool v.has, .slice v.va v.vn v.vc, .int .i64 v.home, .int .u64 (v.count : Int)]) := by
      show Bk _ _ _ _
      rw [hW4]
      refine Bk.cast (((((HQ2.out).put 0 (.bool v.has)).put 1 (.slice v.va v.vn v.vc)).put 2 (.int .i64 v.home)).put 3 (.int .u64 (v.count : Int))) ?_
      simp only [List.setIfInBounds_toArray, List.set_cons_zero, List.set_cons_succ]
    have HW4 := Lib.hid hW4
    have HX4 := Lib.hid hxW4
    clear hW4 hxW4
    go_wp2_with fail
    rw [← HW4.out]
    clear HW4
    have r0 : W4.cell? ⟨q, 0, none⟩ = some (.bool v.has) := HBW4.out.cell 0
    have r1 : W4.cell? ⟨q, 1, none⟩ = some (.slice v.va v.vn v.vc) := HBW4.out.cell 1
    have r2 : W4.cell? ⟨q, 2, none⟩ = some (.int .i64 v.home) := HBW4.out.cell 2
    have r3 : W4.cell? ⟨q, 3, none⟩ = some (.int .u64 (v.count : Int)) := HBW4.out.cell 3
    refine bodyPost_ret (v := vaR v) (by rw [results_cellQ rfl]; go_simp; rfl) rfl ?_
    exact ⟨v, rfl, HR.out.fr HX4.out fun k hk e => Byt.no HQ2.out (by decide) (e ▸ hk), HF02.out.step HX4.out fun i hi e => by have := HPQ.out; omega⟩
  | false =>
    obtain rfl : v = (VaR.mk false none 0 0 0 0 : VaR) := by
      rcases HLK.out with ⟨e, _⟩ | ⟨_, e, _⟩
      · cases e
      · exact e
    have HR : Hid (rget n (rz zs) key = ⟨false, [], homeOf key n, 0⟩) := rget_no fun r hr => by
      obtain ⟨z, hz, e⟩ := List.mem_map.1 hr
      obtain ⟨k, v', r'⟩ := z
      injection e with e1 e2
      have e1' : k = key := e1
      subst e1'
      exact HLK.out.none_of v' (List.mem_map.2 ⟨_, hz, rfl⟩)
    go_upto_region 2 with fail
    rw [← show w2 = w1.alloc (.cells #[.bool false, .slice none 0 0, .int .i64 0, .int .u64 0] 38) from HW2.out, ← HP.out]
    clear HW2 HP
    have c0 : w2.cell? ⟨g, 0, none⟩ = some (.int .i64 (n : Int)) := HS2.out.bk.cell 0
    obtain ⟨hm, hhm⟩ : ∃ hm, hm = homeOf key n := ⟨_, rfl⟩
    have HDF := Lib.hid (default_any w2 key n HK.out)
    rw [← hhm] at HDF
    have HHM := Lib.hid hhm
    obtain ⟨v, hv⟩ : ∃ v : VaR, v = ⟨false, none, 0, 0, hm, 0⟩ := ⟨_, rfl⟩
    obtain ⟨W3, hW3⟩ : ∃ W, W = w2.setCell ⟨p, 2, none⟩ (.int .i64 hm) := ⟨_, rfl⟩
    have hx3 : Fr (fun k => k = p) w2 W3 := by rw [hW3]; exact (Fr.refl (fun k => k = p) w2).setCell (p := ⟨p, 2, none⟩) (fun _ => rfl) _
    have HP3 : Hid (Bk W3 p 38 #[.bool v.has, .slice v.va v.vn v.vc, .int .i64 v.home, .int .u64 (v.count : Int)]) := by show Bk _ _ _ _; rw [hW3, hv]; exact HP2.out.put 2 _
    have HQ3 : Hid (Bk W3 q 38 #[.bool false, .slice none 0 0, .int .i64 0, .int .u64 0]) := HQ2.out.fr hx3 (by have := HPQ.out; omega)
    have pf := HP2.out.free 2
    have pc : w2.cell? ⟨p, 2, none⟩ = some (.int .i64 0) := HP2.out.cell 2
    have HW3 := Lib.hid hW3
    have HX3 := Lib.hid hx3
    have HV := Lib.hid hv
    clear hhm hW3 hx3 hv
    go_wp2_with fail
    refine HDF.out.mono ?_
    rintro e w9 ⟨rfl, rfl⟩
    clear HDF
    go_upto_region 4 with fail
    rw [← HW3.out]
    clear HW3 c0 pf pc
    have a0 : W3.cell? ⟨p, 0, none⟩ = some (.bool v.has) := HP3.out.cell 0
    have a1 : W3.cell? ⟨p, 1, none⟩ = some (.slice v.va v.vn v.vc) := HP3.out.cell 1
    have a2 : W3.cell? ⟨p, 2, none⟩ = some (.int .i64 v.home) := HP3.out.cell 2
    have a3 : W3.cell? ⟨p, 3, none⟩ = some (.int .u64 (v.count : Int)) := HP3.out.cell 3
    have z0 : W3.cell? ⟨q, 0, none⟩ = some (.bool false) := HQ3.out.cell 0
    have z1 : W3.cell? ⟨q, 1, none⟩ = some (.slice none 0 0) := HQ3.out.cell 1
    have z2 : W3.cell? ⟨q, 2, none⟩ = some (.int .i64 0) := HQ3.out.cell 2
    have z3 : W3.cell? ⟨q, 3, none⟩ = some (.int .u64 0) := HQ3.out.cell 3
    have zf0 := HQ3.out.free 0
    have zf1 := HQ3.out.free 1
    have zf2 := HQ3.out.free 2
    have zf3 := HQ3.out.free 3
    obtain ⟨W4, hW4⟩ : ∃ W, W = ((((W3).setCell ⟨q, 0, none⟩ (.bool v.has)).setCell ⟨q, 1, none⟩ (.slice v.va v.vn v.vc)).setCell ⟨q, 2, none⟩ (.int .i64 v.home)).setCell ⟨q, 3, none⟩ (.int .u64 (v.count : Int)) := ⟨_, rfl⟩
    have hxW4 : Fr (fun k => k = q) W3 W4 := by
      rw [hW4]
      exact ((((Fr.refl (fun k => k = q) W3).setCell (p := ⟨q, 0, none⟩) (fun _ => rfl) _).setCell (p := ⟨q, 1, none⟩) (fun _ => rfl) _).setCell (p := ⟨q, 2, none⟩) (fun _ => rfl) _).setCell (p := ⟨q, 3, none⟩) (fun _ => rfl) _
    have HBW4 : Hid (Bk W4 q 38 #[.bool v.has, .slice v.va v.vn v.vc, .int .i64 v.home, .int .u64 (v.count : Int)]) := by
      show Bk _ _ _ _
      rw [hW4]
      refine Bk.cast (((((HQ3.out).put 0 (.bool v.has)).put 1 (.slice v.va v.vn v.vc)).put 2 (.int .i64 v.home)).put 3 (.int .u64 (v.count : Int))) ?_
      simp only [List.setIfInBounds_toArray, List.set_cons_zero, List.set_cons_succ]
    have HW4 := Lib.hid hW4
    have HX4 := Lib.hid hxW4
    clear hW4 hxW4
    go_wp2_with fail
    rw [← HW4.out]
    clear HW4
    have r0 : W4.cell? ⟨q, 0, none⟩ = some (.bool v.has) := HBW4.out.cell 0
    have r1 : W4.cell? ⟨q, 1, none⟩ = some (.slice v.va v.vn v.vc) := HBW4.out.cell 1
    have r2 : W4.cell? ⟨q, 2, none⟩ = some (.int .i64 v.home) := HBW4.out.cell 2
    have r3 : W4.cell? ⟨q, 3, none⟩ = some (.int .u64 (v.count : Int)) := HBW4.out.cell 3
    refine bodyPost_ret (v := vaR v) (by rw [results_cellQ rfl]; go_simp; rfl) rfl ?_
    refine ⟨v, rfl, ?_, (HF02.out.step HX3.out fun i hi e => by have := HPQ.out; omega).step HX4.out fun i hi e => by have := HPQ.out; omega⟩
    rw [HR.out, HV.out, HHM.out]
    exact ⟨rfl, rfl, rfl, rfl, fun _ => rfl, Rd.none_ _ _, fun k hk => by obtain ⟨x, hx, _⟩ := hk; cases hx⟩
end Go.Proofs.Ytkdcacajacndmaa

namespace Go.Proofs.Ytkdcacajacndmaa
open Go.RowKit
theorem own_in {w : World} {base : Nat} {e : TypeId} {size n : Nat} {v : Value} {xs : List Value} (h : w.ownsRow base e size v n xs) {k : Nat} (hk : v.ownBlock = some k) : base ≤ k ∧ k < w.heap.size := by
  rcases h.2 with ⟨h1, _⟩ | ⟨g, cap, cur, h1, h2, hh, _⟩
  · rw [h1] at hk; cases hk
  · rw [h1] at hk
    have : g = k := by simpa [Value.ownBlock] using hk
    subst this
    exact ⟨h2, (Array.getElem?_eq_some_iff.1 hh).1⟩
/-- a record's value in memory made since N. -/
structure Fresh (N : Nat) (w : World) (v : VaR) (r : Rec) : Prop where
  has : v.has = r.has
  home : v.home = r.home
  count : v.count = r.count
  len : v.vn = r.val.length
  own : w.ownsRow N 5 1 (.slice v.va v.vn v.vc) r.val.length (cb r.val)
theorem Fresh.nil {N : Nat} {w : World} {v : VaR} {r : Rec} (h : Fresh N w v r) : v.va = none → v.vc = 0 := fun e => by
  obtain ⟨A, c, e1, h1, h2⟩ := own_form h.own
  injection e1 with e1 e2 e3
  rw [e3]
  exact h2 (e1 ▸ e)
theorem Fresh.reads [Ex] {N : Nat} {w : World} {v : VaR} {r : Rec} (h : Fresh N w v r) (hx : ExL N) : Reads w v r :=
  ⟨h.has, h.home, h.count, h.len, h.nil, Rd.of_own (by have := h.own; rw [h.len] at this; exact this), fun k hk => ⟨Byt.own h.own (ablk_own hk), fun e => by
    have h1 := (own_in h.own (ablk_own hk)).1
    have h2 := hx k e
    omega⟩⟩
theorem Fresh.fr {N : Nat} {C : Nat → Prop} {w w' : World} {v : VaR} {r : Rec} (h : Fresh N w v r) (hf : Fr C w w') (hn : ∀ k, Byt w k → ¬ C k) : Fresh N w' v r :=
  ⟨h.has, h.home, h.count, h.len, own_fr h.own hf fun k hk => hn k (Byt.own h.own hk)⟩
theorem Fresh.low {N M : Nat} {w : World} {v : VaR} {r : Rec} (h : Fresh N w v r) (hm : M ≤ N) : Fresh M w v r := ⟨h.has, h.home, h.count, h.len, own_base h.own hm⟩
def GetPost (w : World) (r : Rec) (e : Ending) (w' : World) : Prop := ∃ v, e = .returned (vaR v) ∧ Fresh w.heap.size w' v r ∧ Fr NoBlk w w'
set_option maxRecDepth 100000 in
set_option maxHeartbeats 1000000 in
theorem copied_any [Ex] (w : World) (v : VaR) (r : Rec) (h : Reads w v r) (hl : r.val.length ≤ 1000000000) :
    Calls Try.prog 37 #[vaR v] w (GetPost w r) := by
  obtain ⟨p, hp⟩ : ∃ p, p = w.heap.size := ⟨_, rfl⟩
  obtain ⟨q, hq⟩ : ∃ q, q = p + 1 := ⟨_, rfl⟩
  obtain ⟨w0, hw0⟩ : ∃ w0, w0 = (w.alloc (.cells #[.bool v.has, .slice v.va v.vn v.vc, .int .i64 v.home, .int .u64 (v.count : Int)] 38)).alloc (.cells #[.bool false, .slice none 0 0, .int .i64 0, .int .u64 0] 38) := ⟨_, rfl⟩
  have hf0 : Fr NoBlk w w0 := by rw [hw0]; exact ((Fr.refl _ _).alloc _).alloc _
  have HP0 : Hid (Bk w0 p 38 #[.bool v.has, .slice v.va v.vn v.vc, .int .i64 v.home, .int .u64 (v.count : Int)]) := by show Bk _ _ _ _; rw [hw0, hp]; exact (Bk.new _ _ _).alloc _
  have HQ0 : Hid (Bk w0 q 38 #[.bool false, .slice none 0 0, .int .i64 0, .int .u64 0]) := by show Bk _ _ _ _; rw [hw0, hq, hp]; have h := Bk.new (w.alloc (.cells #[.bool v.has, .slice v.va v.vn v.vc, .int .i64 v.home, .int .u64 (v.count : Int)] 38)) 38 #[.bool false, .slice none 0 0, .int .i64 0, .int .u64 0]; rw [World.size_alloc] at h; exact h
  have HC := Lib.hid (clone_any w0 v.va v.vn v.vc r.val h.len (h.rd.nofr hf0) h.nil hl)
  have HF0 := Lib.hid hf0
  have HP := Lib.hid hp
  have HQE := Lib.hid hq
  have HW0 := Lib.hid hw0
  have HR := Lib.hid h
  have a1 : w0.cell? ⟨p, 1, none⟩ = some (.slice v.va v.vn v.vc) := HP0.out.cell 1
  clear h hl hf0 hp hw0 hq
  unfold vaR
  go_enter Try.func37, Try.ntmps37
  go_upto_region 1 with fail
  rw [← HW0.out, ← HP.out, ← HQE.out]
  clear HW0
  go_wp2_with fail
  refine HC.out.mono ?_
  clear HC a1
  rintro e w1 ⟨v', rfl, hn⟩
  obtain ⟨A, c, rfl, hac, han⟩ := own_form hn.own
  have HN := Lib.hid hn
  obtain ⟨n', hn'⟩ : ∃ n', n' = r.val.length := ⟨_, rfl⟩
  rw [← hn'] at HN ⊢
  have HN' := Lib.hid hn'
  have HP1 := Lib.hid (HP0.out.fr hn.fr fun e => e)
  have HQ1 := Lib.hid (HQ0.out.fr hn.fr fun e => e)
  obtain ⟨u, hu⟩ : ∃ u : VaR, u = ⟨v.has, A, n', c, v.home, v.count⟩ := ⟨_, rfl⟩
  obtain ⟨W2, hW2⟩ : ∃ W, W = w1.setCell ⟨p, 1, none⟩ (.slice A n' c) := ⟨_, rfl⟩
  have hx2 : Fr (fun k => k = p) w1 W2 := by rw [hW2]; exact (Fr.refl (fun k => k = p) w1).setCell (p := ⟨p, 1, none⟩) (fun _ => rfl) _
  have HP2 : Hid (Bk W2 p 38 #[.bool u.has, .slice u.va u.vn u.vc, .int .i64 u.home, .int .u64 (u.count : Int)]) := by show Bk _ _ _ _; rw [hW2, hu]; exact HP1.out.put 1 _
  have HQ2 : Hid (Bk W2 q 38 #[.bool false, .slice none 0 0, .int .i64 0, .int .u64 0]) := HQ1.out.fr hx2 (by have := HQE.out; omega)
  have a1 : w1.cell? ⟨p, 1, none⟩ = some (.slice v.va v.vn v.vc) := HP1.out.cell 1
  have af := HP1.out.free 1
  have HW2 := Lib.hid hW2
  have HX2 := Lib.hid hx2
  have HU := Lib.hid hu
  clear hn hn' hW2 hx2 hu hac han
  go_upto_region 2 with fail
  rw [← HW2.out]
  clear HW2 a1 af
  have a0 : W2.cell? ⟨p, 0, none⟩ = some (.bool u.has) := HP2.out.cell 0
  have a1 : W2.cell? ⟨p, 1, none⟩ = some (.slice u.va u.vn u.vc) := HP2.out.cell 1
  have a2 : W2.cell? ⟨p, 2, none⟩ = some (.int .i64 u.home) := HP2.out.cell 2
  have a3 : W2.cell? ⟨p, 3, none⟩ = some (.int .u64 (u.count : Int)) := HP2.out.cell 3
  have z0 : W2.cell? ⟨q, 0, none⟩ = some (.bool false) := HQ2.out.cell 0
  have z1 : W2.cell? ⟨q, 1, none⟩ = some (.slice none 0 0) := HQ2.out.cell 1
  have z2 : W2.cell? ⟨q, 2, none⟩ = some (.int .i64 0) := HQ2.out.cell 2
  have z3 : W2.cell? ⟨q, 3, none⟩ = some (.int .u64 0) := HQ2.out.cell 3
  have zf0 := HQ2.out.free 0
  have zf1 := HQ2.out.free 1
  have zf2 := HQ2.out.free 2
  have zf3 := HQ2.out.free 3
  obtain ⟨W4, hW4⟩ : ∃ W, W = ((((W2).setCell ⟨q, 0, none⟩ (.bool u.has)).setCell ⟨q, 1, none⟩ (.slice u.va u.vn u.vc)).setCell ⟨q, 2, none⟩ (.int .i64 u.home)).setCell ⟨q, 3, none⟩ (.int .u64 (u.count : Int)) := ⟨_, rfl⟩
  have hxW4 : Fr (fun k => k = q) W2 W4 := by
    rw [hW4]
    exact ((((Fr.refl (fun k => k = q) W2).setCell (p := ⟨q, 0, none⟩) (fun _ => rfl) _).setCell (p := ⟨q, 1, none⟩) (fun _ => rfl) _).setCell (p := ⟨q, 2, none⟩) (fun _ => rfl) _).setCell (p := ⟨q, 3, none⟩) (fun _ => rfl) _
  have HBW4 : Hid (Bk W4 q 38 #[.bool u.has, .slice u.va u.vn u.vc, .int .i64 u.home, .int .u64 (u.count : Int)]) := by
    show Bk _ _ _ _
    rw [hW4]
    refine Bk.cast (((((HQ2.out).put 0 (.bool u.has)).put 1 (.slice u.va u.vn u.vc)).put 2 (.int .i64 u.home)).put 3 (.int .u64 (u.count : Int))) ?_
    simp only [List.setIfInBounds_toArray, List.set_cons_zero, List.set_cons_succ]
  have HW4 := Lib.hid hW4
  have HX4 := Lib.hid hxW4
  clear hW4 hxW4
  go_wp2_with fail
  rw [← HW4.out]
  clear HW4
  have r0 : W4.cell? ⟨q, 0, none⟩ = some (.bool u.has) := HBW4.out.cell 0
  have r1 : W4.cell? ⟨q, 1, none⟩ = some (.slice u.va u.vn u.vc) := HBW4.out.cell 1
  have r2 : W4.cell? ⟨q, 2, none⟩ = some (.int .i64 u.home) := HBW4.out.cell 2
  have r3 : W4.cell? ⟨q, 3, none⟩ = some (.int .u64 (u.count : Int)) := HBW4.out.cell 3
  refine bodyPost_ret (v := vaR u) (by rw [results_cellQ rfl]; go_simp; rfl) rfl ?_
  have hsz := HP.out
  have hqe := HQE.out
  have hz0 := HF0.out.size
  have hb : ∀ k, (Value.slice A r.val.length c).ownBlock = some k → w0.heap.size ≤ k := fun k hk => (own_in HN.out.own (by rw [HN'.out]; exact hk)).1
  have hlt := HQ0.out.lt
  refine ⟨u, rfl, ⟨by rw [HU.out]; exact HR.out.has, by rw [HU.out]; exact HR.out.home, by rw [HU.out]; exact HR.out.count, by rw [HU.out]; exact HN'.out, ?_⟩, ((HF0.out.trans HN.out.fr).step HX2.out fun i hi e => by omega).step HX4.out fun i hi e => by omega⟩
  rw [HU.out]
  have h1 := own_base HN.out.own hz0
  rw [HN'.out] at h1 ⊢
  exact own_fr (own_fr h1 HX2.out fun k hk e => by have := hb k hk; omega) HX4.out fun k hk e => by have := hb k hk; omega
set_option maxRecDepth 100000 in
set_option maxHeartbeats 1000000 in
theorem sget_any [Ex] (w : World) (g : Nat) (O : Nat → Prop) (n : Nat) (rs : List Rw) (h : Store w g O n rs) (key : Bs) (hk : key.length ≤ 1000000000) (hl : (rget n rs key).val.length ≤ 1000000000) :
    Calls Try.prog 16 #[.pointer (some ⟨g, 0, none⟩), .string (bstr key)] w (GetPost w (rget n rs key)) := by
  obtain ⟨q, hq⟩ : ∃ q, q = w.heap.size := ⟨_, rfl⟩
  obtain ⟨w0, hw0⟩ : ∃ w0, w0 = w.alloc (.cells #[.bool false, .slice none 0 0, .int .i64 0, .int .u64 0] 38) := ⟨_, rfl⟩
  have hf0 : Fr NoBlk w w0 := by rw [hw0]; exact (Fr.refl _ _).alloc _
  have HQ0 : Hid (Bk w0 q 38 #[.bool false, .slice none 0 0, .int .i64 0, .int .u64 0]) := by show Bk _ _ _ _; rw [hw0, hq]; exact Bk.new _ _ _
  obtain ⟨r, hr⟩ : ∃ r, r = rget n rs key := ⟨_, rfl⟩
  have HRC := Lib.hid (srecord_any w0 g O n rs (h.nofr hf0) key hk)
  rw [← hr] at HRC hl ⊢
  have HL := Lib.hid hl
  have HQ := Lib.hid hq
  have HW0 := Lib.hid hw0
  have HF0 := Lib.hid hf0
  clear h hk hl hq hw0 hf0 hr
  go_enter Try.func16, Try.ntmps16
  go_upto_region 1 with fail
  rw [← HW0.out, ← HQ.out]
  clear HW0
  go_wp2_with fail
  refine HRC.out.mono ?_
  clear HRC
  rintro e w1 ⟨v, rfl, hrd, hf1⟩
  have HC := Lib.hid (copied_any w1 v r hrd HL.out)
  have HQ1 := Lib.hid (HQ0.out.fr hf1 fun e => e)
  have HF1 := Lib.hid hf1
  unfold vaR
  clear hrd hf1
  go_wp2_with fail
  refine HC.out.mono ?_
  clear HC
  rintro e w2 ⟨u, rfl, hfr, hf2⟩
  have HFR := Lib.hid hfr
  have HF2 := Lib.hid hf2
  have HQ2 := Lib.hid (HQ1.out.fr hf2 fun e => e)
  unfold vaR
  clear hfr hf2
  have z0 : w2.cell? ⟨q, 0, none⟩ = some (.bool false) := HQ2.out.cell 0
  have z1 : w2.cell? ⟨q, 1, none⟩ = some (.slice none 0 0) := HQ2.out.cell 1
  have z2 : w2.cell? ⟨q, 2, none⟩ = some (.int .i64 0) := HQ2.out.cell 2
  have z3 : w2.cell? ⟨q, 3, none⟩ = some (.int .u64 0) := HQ2.out.cell 3
  have zf0 := HQ2.out.free 0
  have zf1 := HQ2.out.free 1
  have zf2 := HQ2.out.free 2
  have zf3 := HQ2.out.free 3
  obtain ⟨W4, hW4⟩ : ∃ W, W = ((((w2).setCell ⟨q, 0, none⟩ (.bool u.has)).setCell ⟨q, 1, none⟩ (.slice u.va u.vn u.vc)).setCell ⟨q, 2, none⟩ (.int .i64 u.home)).setCell ⟨q, 3, none⟩ (.int .u64 (u.count : Int)) := ⟨_, rfl⟩
  have hxW4 : Fr (fun k => k = q) w2 W4 := by
    rw [hW4]
    exact ((((Fr.refl (fun k => k = q) w2).setCell (p := ⟨q, 0, none⟩) (fun _ => rfl) _).setCell (p := ⟨q, 1, none⟩) (fun _ => rfl) _).setCell (p := ⟨q, 2, none⟩) (fun _ => rfl) _).setCell (p := ⟨q, 3, none⟩) (fun _ => rfl) _
  have HBW4 : Hid (Bk W4 q 38 #[.bool u.has, .slice u.va u.vn u.vc, .int .i64 u.home, .int .u64 (u.count : Int)]) := by
    show Bk _ _ _ _
    rw [hW4]
    refine Bk.cast (((((HQ2.out).put 0 (.bool u.has)).put 1 (.slice u.va u.vn u.vc)).put 2 (.int .i64 u.home)).put 3 (.int .u64 (u.count : Int))) ?_
    simp only [List.setIfInBounds_toArray, List.set_cons_zero, List.set_cons_succ]
  have HW4 := Lib.hid hW4
  have HX4 := Lib.hid hxW4
  clear hW4 hxW4
  go_wp2_with fail
  rw [← HW4.out]
  clear HW4
  have r0 : W4.cell? ⟨q, 0, none⟩ = some (.bool u.has) := HBW4.out.cell 0
  have r1 : W4.cell? ⟨q, 1, none⟩ = some (.slice u.va u.vn u.vc) := HBW4.out.cell 1
  have r2 : W4.cell? ⟨q, 2, none⟩ = some (.int .i64 u.home) := HBW4.out.cell 2
  have r3 : W4.cell? ⟨q, 3, none⟩ = some (.int .u64 (u.count : Int)) := HBW4.out.cell 3
  refine bodyPost_ret (v := vaR u) (by rw [results_cellQ rfl]; go_simp; rfl) rfl ?_
  have hsz := HF0.out.size
  have hs1 := HF1.out.size
  exact ⟨u, rfl, (HFR.out.fr HX4.out fun k hk e => Byt.no HQ2.out (by decide) (e ▸ hk)).low (by omega), ((HF0.out.trans HF1.out).trans HF2.out).step HX4.out fun i hi e => by have := HQ.out; omega⟩
set_option maxRecDepth 100000 in
set_option maxHeartbeats 400000 in
theorem isRow_any (w : World) (v : VaR) :
    Calls Try.prog 68 #[vaR v] w fun e w' => e = .returned (.bool (v.has || v.count != 0)) ∧ Fr NoBlk w w' := by
  obtain ⟨b, hb⟩ : ∃ b, b = v.has := ⟨_, rfl⟩
  have HB := Lib.hid hb
  unfold vaR
  rw [← hb]
  clear hb
  have HF : Hid (Fr NoBlk w (w.alloc (.cells #[.bool b, .slice v.va v.vn v.vc, .int .i64 v.home, .int .u64 (v.count : Int)] 38))) := (Fr.refl _ _).alloc _
  cases b with
  | true =>
    go_enter Try.func68, Try.ntmps68
    go_wp2_with fail
    go_ret
    exact ⟨by simp, HF.out⟩
  | false =>
    obtain ⟨c, hc⟩ : ∃ c, c = v.count := ⟨_, rfl⟩
    rw [← hc] at HF ⊢
    clear hc
    by_cases h0 : c = 0
    · subst h0
      go_enter Try.func68, Try.ntmps68
      go_wp2_with fail
      go_ret
      exact ⟨by simp, HF.out⟩
    · have h1 : ((c : Int) != 0) = true := by simp [h0]
      have H0 : Hid (¬ c = 0) := h0
      clear h0
      go_enter Try.func68, Try.ntmps68
      go_wp2_with fail
      go_ret
      exact ⟨by simp [H0.out], HF.out⟩
end Go.Proofs.Ytkdcacajacndmaa

namespace Go.Proofs.Ytkdcacajacndmaa
open Go.RowKit
theorem Stp.pre {w w1 w' : World} {o o' : Nat → Prop} (hf : Fr NoBlk w w1) (h : Stp w1 w' o o') : Stp w w' o o' :=
  ⟨(hf.mono fun _ _ e => e.elim).trans h.fr, fun b hb => (h.new b hb).imp id fun e => Nat.le_trans hf.size e⟩
theorem StoreIn.turned [Ex] {w w' : World} {g gt n : Nat} {O OT OT' : Nat → Prop} {zs zs' : List Zr} (h : StoreIn w g gt O OT n zs) (ht : TreeR w' gt OT' (vz zs')) (hs : Stp w w' OT OT') (hr : ∀ z ∈ zs', Reads w z.2.1 z.2.2 ∧ z.2.2.count < 2 ^ 64) :
    ∃ O', Store w' g O' n (rz zs') ∧ Stp w w' O O' := by
  have hg := h.bk.lt
  refine ⟨fun b => b = g ∨ OT' b, ⟨gt, OT', zs', ⟨h.bk.fr hs.fr h.ne, ht, fun z hz => (hr z hz).1.fr hs.fr fun k hk hb => h.tr.nb hb hk, fun b => Iff.rfl, fun hb => ?_, h.n3, fun z hz => (hr z hz).2, h.lx.le hs.fr.size⟩, rfl⟩, ⟨hs.fr.mono fun b _ hb => (h.own b).2 (.inr hb), fun b hb => ?_⟩⟩
  · rcases hs.new g hb with e | e
    · exact h.ne e
    · omega
  · rcases hb with rfl | hb
    · exact .inl ((h.own _).2 (.inl rfl))
    · exact (hs.new b hb).imp (fun e => (h.own b).2 (.inr e)) id
def KeepPost [Ex] (w : World) (g : Nat) (O : Nat → Prop) (n : Nat) (rs : List Rw) (e : Ending) (w' : World) : Prop := (∃ x, e = .returned x) ∧ ∃ O', Store w' g O' n rs ∧ Stp w w' O O'
theorem KeepPost.pre [Ex] {w w1 w' : World} {g n : Nat} {O : Nat → Prop} {rs : List Rw} {e : Ending} (hf : Fr NoBlk w w1) (h : KeepPost w1 g O n rs e w') : KeepPost w g O n rs e w' := by
  obtain ⟨h1, O', h2, h3⟩ := h
  exact ⟨h1, O', h2, h3.pre hf⟩
set_option maxRecDepth 100000 in
set_option maxHeartbeats 1000000 in
theorem keep_any [Ex] (w : World) (g : Nat) (O : Nat → Prop) (n : Nat) (rs : List Rw) (h : Store w g O n rs) (hlen : rs.length ≤ 99999) (key : Bs) (v : VaR) (r : Rec) (hr : Reads w v r) (hc : r.count < 2 ^ 64) :
    Calls Try.prog 56 #[.pointer (some ⟨g, 0, none⟩), .string (bstr key), vaR v] w (KeepPost w g O n (rset rs key r)) := by
  obtain ⟨gt, OT, zs, hs, rfl⟩ := h
  obtain ⟨p, hp⟩ : ∃ p, p = w.heap.size := ⟨_, rfl⟩
  obtain ⟨w0, hw0⟩ : ∃ w0, w0 = w.alloc (.cells #[.bool v.has, .slice v.va v.vn v.vc, .int .i64 v.home, .int .u64 (v.count : Int)] 38) := ⟨_, rfl⟩
  have hf0 : Fr NoBlk w w0 := by rw [hw0]; exact (Fr.refl _ _).alloc _
  have HP0 : Hid (Bk w0 p 38 #[.bool v.has, .slice v.va v.vn v.vc, .int .i64 v.home, .int .u64 (v.count : Int)]) := by show Bk _ _ _ _; rw [hw0, hp]; exact Bk.new _ _ _
  have HS0 := Lib.hid (hs.fr hf0 (fun _ _ e => e) fun _ _ e => e)
  have HR0 := Lib.hid (hr.nofr hf0)
  have HI := Lib.hid (isRow_any w0 v)
  have HF0 := Lib.hid hf0
  have HW0 := Lib.hid hw0
  have HP := Lib.hid hp
  have HC := Lib.hid hc
  have HLEN : Hid (zs.length ≤ 99999) := by show _ ≤ _; rw [← rz_len]; exact hlen
  have a0 : w0.cell? ⟨p, 0, none⟩ = some (.bool v.has) := HP0.out.cell 0
  have a1 : w0.cell? ⟨p, 1, none⟩ = some (.slice v.va v.vn v.vc) := HP0.out.cell 1
  have a2 : w0.cell? ⟨p, 2, none⟩ = some (.int .i64 v.home) := HP0.out.cell 2
  have a3 : w0.cell? ⟨p, 3, none⟩ = some (.int .u64 (v.count : Int)) := HP0.out.cell 3
  have HB : Hid ((v.has || v.count != 0) = (r.has || r.count != 0)) := by show _ = _; rw [hr.has, hr.count]
  clear hs hp hw0 hf0 hr hc hlen
  unfold vaR at HI ⊢
  go_enter Try.func56, Try.ntmps56
  go_upto_region 1 with fail
  rw [← HW0.out, ← HP.out]
  clear HW0
  go_wp2_with fail
  refine HI.out.mono ?_
  clear HI a0 a1 a2 a3
  rintro e w1 ⟨rfl, hf1⟩
  have HP1 := Lib.hid (HP0.out.fr hf1 fun e => e)
  have HS1 := Lib.hid (HS0.out.fr hf1 (fun _ _ e => e) fun _ _ e => e)
  have HR1 := Lib.hid (HR0.out.nofr hf1)
  have HF1 : Hid (Fr NoBlk w w1) := HF0.out.trans hf1
  have c1 : w1.cell? ⟨g, 1, none⟩ = some (.pointer (some ⟨gt, 0, none⟩)) := HS1.out.bk.cell 1
  clear hf1
  generalize hbb : (v.has || v.count != 0) = bb at *
  cases bb with
  | true =>
    have HPUT : Hid (∀ W, Fr NoBlk w1 W → Calls Try.prog 69 #[.pointer (some ⟨gt, 0, none⟩), .string (bstr key), .agg #[.bool v.has, .slice v.va v.vn v.vc, .int .i64 v.home, .int .u64 (v.count : Int)]] W fun e w' => ∃ x, e = .returned x ∧ Hid (KeepPost w g O n (rset (rz zs) key r) (.returned x) w')) := fun W hW => by
      have hT := HS1.out.fr hW (fun _ _ e => e) fun _ _ e => e
      refine (treePutR_any W gt OT (vz zs) hT.tr (by have := HLEN.out; rw [vz_len]; omega) key v).mono ?_
      rintro e w' ⟨old, had, O', rfl, hlk, ht, hst⟩
      have hrs : rset (rz zs) key r = rz (putL Op.bytesLess key (v, r) zs) := by
        rw [rz_put]
        unfold rset
        rw [if_pos HB.out.symm]
      rw [← vz_put key v r zs] at ht
      obtain ⟨O2, h1, h2⟩ := hT.turned ht hst fun z hz => by
        rcases mem_putL' hz with rfl | hz
        · exact ⟨HR1.out.nofr hW, HC.out⟩
        · exact ⟨hT.rd z hz, hT.cnt z hz⟩
      refine ⟨_, rfl, ⟨_, rfl⟩, O2, ?_, h2.pre (HF1.out.trans hW)⟩
      rw [hrs]
      exact h1
    have a0 : w1.cell? ⟨p, 0, none⟩ = some (.bool v.has) := HP1.out.cell 0
    have a1 : w1.cell? ⟨p, 1, none⟩ = some (.slice v.va v.vn v.vc) := HP1.out.cell 1
    have a2 : w1.cell? ⟨p, 2, none⟩ = some (.int .i64 v.home) := HP1.out.cell 2
    have a3 : w1.cell? ⟨p, 3, none⟩ = some (.int .u64 (v.count : Int)) := HP1.out.cell 3
    have c1d : w1.drew.cell? ⟨g, 1, none⟩ = some (.pointer (some ⟨gt, 0, none⟩)) := c1
    have d0 : w1.drew.cell? ⟨p, 0, none⟩ = some (.bool v.has) := (HP1.out.fr (Fr.refl NoBlk _).drew fun e => e).cell 0
    have d1 : w1.drew.cell? ⟨p, 1, none⟩ = some (.slice v.va v.vn v.vc) := (HP1.out.fr (Fr.refl NoBlk _).drew fun e => e).cell 1
    have d2 : w1.drew.cell? ⟨p, 2, none⟩ = some (.int .i64 v.home) := (HP1.out.fr (Fr.refl NoBlk _).drew fun e => e).cell 2
    have d3 : w1.drew.cell? ⟨p, 3, none⟩ = some (.int .u64 (v.count : Int)) := (HP1.out.fr (Fr.refl NoBlk _).drew fun e => e).cell 3
    go_wp2_with fail
    go_region_with (refine (HPUT.out _ ?_).mono ?_; (first | exact (Fr.refl _ _).drew | exact Fr.refl _ _); rintro e w2 ⟨x, rfl, HK⟩)
    all_goals
      go_wp2_with fail
      go_end0
      obtain ⟨_, O2, h1, h2⟩ := HK.out
      exact ⟨⟨_, rfl⟩, O2, h1, h2⟩
  | false =>
    have HDEL : Hid (Calls Try.prog 70 #[.pointer (some ⟨gt, 0, none⟩), .string (bstr key)] w1 fun e w' => ∃ x, e = .returned x ∧ Hid (KeepPost w g O n (rset (rz zs) key r) (.returned x) w')) := by
      have hT := HS1.out
      refine (treeDelR_any w1 gt OT (vz zs) hT.tr (by have := HLEN.out; rw [vz_len]; omega) key).mono ?_
      rintro e w' ⟨old, had, O', rfl, hlk, ht, hst⟩
      have hrs : rset (rz zs) key r = rz (delL Op.bytesLess key zs) := by
        rw [rz_del]
        unfold rset
        rw [if_neg (by rw [← HB.out]; exact Bool.false_ne_true)]
      rw [← vz_del key zs] at ht
      obtain ⟨O2, h1, h2⟩ := hT.turned ht hst fun z hz => ⟨hT.rd z (mem_delL' hz), hT.cnt z (mem_delL' hz)⟩
      refine ⟨_, rfl, ⟨_, rfl⟩, O2, ?_, h2.pre HF1.out⟩
      rw [hrs]
      exact h1
    go_wp2_with fail
    refine HDEL.out.mono ?_
    rintro e w2 ⟨x, rfl, HK⟩
    clear HDEL
    go_wp2_with fail
    go_end0
    obtain ⟨_, O2, h1, h2⟩ := HK.out
    exact ⟨⟨_, rfl⟩, O2, h1, h2⟩
end Go.Proofs.Ytkdcacajacndmaa

namespace Go.Proofs.Ytkdcacajacndmaa
open Go.RowKit
theorem rget_cnt {n : Int} {rs : List Rw} {key : Bs} (h : ∀ x ∈ rs, x.2.count < 2 ^ 64) : (rget n rs key).count < 2 ^ 64 := by
  unfold rget
  cases hf : rs.find? fun x => x.1 == key with
  | none => show (0 : Nat) < 2 ^ 64; omega
  | some x => exact h x (List.mem_of_find?_eq_some hf)
theorem KeepPost.box [Ex] {w W W' : World} {g n : Nat} {O : Nat → Prop} {rs : List Rw} {e : Ending} {p : Nat} (h : KeepPost W g O n rs e W') (hf : Fr (fun k => k = p) w W) (hp : w.heap.size ≤ p) : KeepPost w g O n rs e W' := by
  obtain ⟨h1, O', h2, h3⟩ := h
  exact ⟨h1, O', h2, ⟨(hf.mono (D := O) fun b hb e => by omega).trans h3.fr, fun b hb => (h3.new b hb).imp id fun e => Nat.le_trans hf.size e⟩⟩
/-- what lies apart from a box. -/
theorem KeepPost.boxed [Ex] {w w2 W W' : World} {g n : Nat} {O : Nat → Prop} {rs : List Rw} {e : Ending} {p : Nat} (h : KeepPost W g O n rs e W') (hf : Fr NoBlk w w2) (hx : Fr (fun k => k = p) w2 W) (hp : w.heap.size ≤ p) : KeepPost w g O n rs e W' :=
  h.box (p := p) ((hf.mono fun _ _ e => e.elim).trans hx) hp
set_option maxRecDepth 100000 in
set_option maxHeartbeats 1000000 in
theorem sput_any [Ex] (w : World) (g : Nat) (O : Nat → Prop) (n : Nat) (rs : List Rw) (h : Store w g O n rs) (hlen : rs.length ≤ 99999) (key : Bs) (hk : key.length ≤ 1000000000) (A : Option Addr) (m c : Nat) (l : Bs) (hm : m = l.length) (hA : A = none → c = 0) (hl : Rd w A (cb l)) (hll : l.length ≤ 1000000000) :
    Calls Try.prog 30 #[.pointer (some ⟨g, 0, none⟩), .string (bstr key), .slice A m c] w (KeepPost w g O n (rset rs key ⟨true, l, (rget n rs key).home, (rget n rs key).count⟩)) := by
  have HRC := Lib.hid (srecord_any w g O n rs h key hk)
  obtain ⟨r, hr⟩ : ∃ r, r = rget n rs key := ⟨_, rfl⟩
  rw [← hr] at HRC ⊢
  have HST := Lib.hid h
  have HLEN := Lib.hid hlen
  have HCT : Hid (r.count < 2 ^ 64) := by
    show _ < _
    rw [hr]
    exact rget_cnt h.cnt
  have HL := Lib.hid (And.intro hm (And.intro hA (And.intro hl hll)))
  clear h hlen hk hm hA hl hll hr
  go_enter Try.func30, Try.ntmps30
  go_wp2_with fail
  refine HRC.out.mono ?_
  clear HRC
  rintro e w1 ⟨v, rfl, hrd, hf1⟩
  unfold vaR
  obtain ⟨p, hp⟩ : ∃ p, p = w1.heap.size := ⟨_, rfl⟩
  obtain ⟨w2, hw2⟩ : ∃ W, W = w1.alloc (.cells #[.bool v.has, .slice v.va v.vn v.vc, .int .i64 v.home, .int .u64 (v.count : Int)] 38) := ⟨_, rfl⟩
  have hf2 : Fr NoBlk w w2 := by rw [hw2]; exact hf1.alloc _
  have HP2 : Hid (Bk w2 p 38 #[.bool v.has, .slice v.va v.vn v.vc, .int .i64 v.home, .int .u64 (v.count : Int)]) := by show Bk _ _ _ _; rw [hw2, hp]; exact Bk.new _ _ _
  have HRD := Lib.hid (hrd.nofr (show Fr NoBlk w1 w2 by rw [hw2]; exact (Fr.refl _ _).alloc _))
  have HF2 := Lib.hid hf2
  have HPW : Hid (w.heap.size ≤ p) := by show _ ≤ _; rw [hp]; exact hf1.size
  have HST2 := Lib.hid (HST.out.nofr hf2)
  have HGP : Hid (∀ b, O b → b < p) := fun b hb => by have := HST.out.lt hb; have := HPW.out; omega
  have HW2 := Lib.hid hw2
  have HP := Lib.hid hp
  have HC := Lib.hid (clone_any w2 A m c l HL.out.1 (HL.out.2.2.1.nofr hf2) HL.out.2.1 HL.out.2.2.2)
  clear hrd hf1 hf2 hp hw2
  go_upto_region 1 with fail
  rw [← HW2.out, ← HP.out]
  clear HW2 HP
  go_wp2_with fail
  refine HC.out.mono ?_
  clear HC
  rintro e w3 ⟨v', rfl, hn⟩
  obtain ⟨B, d, rfl, hbd, hbn⟩ := own_form hn.own
  obtain ⟨k, hkk⟩ : ∃ k, k = l.length := ⟨_, rfl⟩
  have HN := Lib.hid hn
  rw [← hkk] at HN ⊢
  have HKK := Lib.hid hkk
  obtain ⟨u, hu⟩ : ∃ u : VaR, u = ⟨true, B, k, d, v.home, v.count⟩ := ⟨_, rfl⟩
  have HP3 := Lib.hid (HP2.out.fr hn.fr fun e => e)
  obtain ⟨W4, hW4⟩ : ∃ W, W = (w3.setCell ⟨p, 0, none⟩ (.bool true)).setCell ⟨p, 1, none⟩ (.slice B k d) := ⟨_, rfl⟩
  have hx4 : Fr (fun j => j = p) w3 W4 := by rw [hW4]; exact ((Fr.refl (fun j => j = p) w3).setCell (p := ⟨p, 0, none⟩) (fun _ => rfl) _).setCell (p := ⟨p, 1, none⟩) (fun _ => rfl) _
  have HP4 : Hid (Bk W4 p 38 #[.bool u.has, .slice u.va u.vn u.vc, .int .i64 u.home, .int .u64 (u.count : Int)]) := by
    show Bk _ _ _ _
    rw [hW4, hu]
    refine Bk.cast ((HP3.out.put 0 (.bool true)).put 1 (.slice B k d)) ?_
    simp only [List.setIfInBounds_toArray, List.set_cons_zero, List.set_cons_succ]
  have hnb : ∀ j, Byt w3 j → ¬ j = p := fun j hj e => Byt.no HP3.out (by decide) (e ▸ hj)
  have HKP := Lib.hid (keep_any W4 g O n rs ((HST2.out.nofr hn.fr).fr hx4 (fun b hb e => by have := HGP.out b hb; omega) hnb) HLEN.out key u ⟨true, l, r.home, r.count⟩
    (by
      rw [hu]
      have hrw : Reads w3 ⟨true, B, k, d, v.home, v.count⟩ ⟨true, l, r.home, r.count⟩ := by
        have hown : w3.ownsRow w2.heap.size 5 1 (.slice B k d) l.length (cb l) := HN.out.own
        have ho2 : w3.ownsRow w2.heap.size 5 1 (.slice B k d) k (cb l) := by rw [hkk] at hown ⊢; exact hown
        exact ⟨rfl, HRD.out.home, HRD.out.count, hkk, fun e => hbn e, Rd.of_own ho2, fun j hj => ⟨Byt.own ho2 (ablk_own hj), fun e => by
          have h1 := (own_in ho2 (ablk_own hj)).1
          have h2 := HST2.out.lx j e
          omega⟩⟩
      exact hrw.fr hx4 hnb) HCT.out)
  have HX4 : Hid (Fr (fun j => j = p) w2 W4) := (hn.fr.mono fun _ _ e => e.elim).trans hx4
  have q0 : w3.cell? ⟨p, 0, none⟩ = some (.bool v.has) := HP3.out.cell 0
  have q1 : w3.cell? ⟨p, 1, none⟩ = some (.slice v.va v.vn v.vc) := HP3.out.cell 1
  have qf0 := HP3.out.free 0
  have qf1 := HP3.out.free 1
  have HW4 := Lib.hid hW4
  clear hn hkk hu hW4 hx4 hnb hbd hbn
  go_upto_region 2 with fail
  rw [← HW4.out]
  clear HW4 q0 q1 qf0 qf1
  have a0 : W4.cell? ⟨p, 0, none⟩ = some (.bool u.has) := HP4.out.cell 0
  have a1 : W4.cell? ⟨p, 1, none⟩ = some (.slice u.va u.vn u.vc) := HP4.out.cell 1
  have a2 : W4.cell? ⟨p, 2, none⟩ = some (.int .i64 u.home) := HP4.out.cell 2
  have a3 : W4.cell? ⟨p, 3, none⟩ = some (.int .u64 (u.count : Int)) := HP4.out.cell 3
  unfold vaR at HKP
  go_wp2_with fail
  refine HKP.out.mono ?_
  clear HKP
  rintro e w5 ⟨⟨x, rfl⟩, hkp⟩
  have HKP := Lib.hid hkp
  clear hkp
  go_wp2_with fail
  go_end0
  obtain ⟨O2, h1, h2⟩ := HKP.out
  have hh : KeepPost W4 g O n (rset rs key ⟨true, l, r.home, r.count⟩) (.returned x) w5 := ⟨⟨_, rfl⟩, O2, h1, h2⟩
  obtain ⟨_, O3, h3, h4⟩ := hh.boxed HF2.out HX4.out HPW.out
  exact ⟨⟨_, rfl⟩, O3, h3, h4⟩
set_option maxRecDepth 100000 in
set_option maxHeartbeats 1000000 in
theorem sdel_any [Ex] (w : World) (g : Nat) (O : Nat → Prop) (n : Nat) (rs : List Rw) (h : Store w g O n rs) (hlen : rs.length ≤ 99999) (key : Bs) (hk : key.length ≤ 1000000000) :
    Calls Try.prog 31 #[.pointer (some ⟨g, 0, none⟩), .string (bstr key)] w (KeepPost w g O n (rset rs key ⟨false, [], (rget n rs key).home, (rget n rs key).count⟩)) := by
  have HRC := Lib.hid (srecord_any w g O n rs h key hk)
  obtain ⟨r, hr⟩ : ∃ r, r = rget n rs key := ⟨_, rfl⟩
  rw [← hr] at HRC ⊢
  have HST := Lib.hid h
  have HLEN := Lib.hid hlen
  have HCT : Hid (r.count < 2 ^ 64) := by
    show _ < _
    rw [hr]
    exact rget_cnt h.cnt
  clear h hlen hk hr
  go_enter Try.func31, Try.ntmps31
  go_wp2_with fail
  refine HRC.out.mono ?_
  clear HRC
  rintro e w1 ⟨v, rfl, hrd, hf1⟩
  unfold vaR
  obtain ⟨p, hp⟩ : ∃ p, p = w1.heap.size := ⟨_, rfl⟩
  obtain ⟨w2, hw2⟩ : ∃ W, W = w1.alloc (.cells #[.bool v.has, .slice v.va v.vn v.vc, .int .i64 v.home, .int .u64 (v.count : Int)] 38) := ⟨_, rfl⟩
  have hf2 : Fr NoBlk w w2 := by rw [hw2]; exact hf1.alloc _
  have HP2 : Hid (Bk w2 p 38 #[.bool v.has, .slice v.va v.vn v.vc, .int .i64 v.home, .int .u64 (v.count : Int)]) := by show Bk _ _ _ _; rw [hw2, hp]; exact Bk.new _ _ _
  have HRD := Lib.hid (hrd.nofr (show Fr NoBlk w1 w2 by rw [hw2]; exact (Fr.refl _ _).alloc _))
  have HF2 := Lib.hid hf2
  have HPW : Hid (w.heap.size ≤ p) := by show _ ≤ _; rw [hp]; exact hf1.size
  have HST2 := Lib.hid (HST.out.nofr hf2)
  have HGP : Hid (∀ b, O b → b < p) := fun b hb => by have := HST.out.lt hb; have := HPW.out; omega
  have HW2 := Lib.hid hw2
  have HP := Lib.hid hp
  obtain ⟨u, hu⟩ : ∃ u : VaR, u = ⟨false, none, 0, 0, v.home, v.count⟩ := ⟨_, rfl⟩
  obtain ⟨W4, hW4⟩ : ∃ W, W = (w2.setCell ⟨p, 0, none⟩ (.bool false)).setCell ⟨p, 1, none⟩ (.slice none 0 0) := ⟨_, rfl⟩
  have hx4 : Fr (fun j => j = p) w2 W4 := by rw [hW4]; exact ((Fr.refl (fun j => j = p) w2).setCell (p := ⟨p, 0, none⟩) (fun _ => rfl) _).setCell (p := ⟨p, 1, none⟩) (fun _ => rfl) _
  have HP4 : Hid (Bk W4 p 38 #[.bool u.has, .slice u.va u.vn u.vc, .int .i64 u.home, .int .u64 (u.count : Int)]) := by
    show Bk _ _ _ _
    rw [hW4, hu]
    refine Bk.cast ((HP2.out.put 0 (.bool false)).put 1 (.slice none 0 0)) ?_
    simp only [List.setIfInBounds_toArray, List.set_cons_zero, List.set_cons_succ]
  have hnb : ∀ j, Byt w2 j → ¬ j = p := fun j hj e => Byt.no HP2.out (by decide) (e ▸ hj)
  have HKP := Lib.hid (keep_any W4 g O n rs (HST2.out.fr hx4 (fun b hb e => by have := HGP.out b hb; omega) hnb) HLEN.out key u ⟨false, [], r.home, r.count⟩
    (by
      rw [hu]
      exact ⟨rfl, HRD.out.home, HRD.out.count, rfl, fun _ => rfl, Rd.none_ _ _, fun k hk => by obtain ⟨x, hx, _⟩ := hk; cases hx⟩) HCT.out)
  have HX4 := Lib.hid hx4
  have q0 : w2.cell? ⟨p, 0, none⟩ = some (.bool v.has) := HP2.out.cell 0
  have q1 : w2.cell? ⟨p, 1, none⟩ = some (.slice v.va v.vn v.vc) := HP2.out.cell 1
  have qf0 := HP2.out.free 0
  have qf1 := HP2.out.free 1
  have HW4 := Lib.hid hW4
  clear hu hW4 hx4 hnb hrd hf1 hf2 hp hw2
  go_upto_region 1 with fail
  rw [← HW2.out, ← HP.out]
  clear HW2 HP
  go_upto_region 2 with fail
  rw [← HW4.out]
  clear HW4 q0 q1 qf0 qf1
  have a0 : W4.cell? ⟨p, 0, none⟩ = some (.bool u.has) := HP4.out.cell 0
  have a1 : W4.cell? ⟨p, 1, none⟩ = some (.slice u.va u.vn u.vc) := HP4.out.cell 1
  have a2 : W4.cell? ⟨p, 2, none⟩ = some (.int .i64 u.home) := HP4.out.cell 2
  have a3 : W4.cell? ⟨p, 3, none⟩ = some (.int .u64 (u.count : Int)) := HP4.out.cell 3
  unfold vaR at HKP
  go_wp2_with fail
  refine HKP.out.mono ?_
  clear HKP
  rintro e w5 ⟨⟨x, rfl⟩, hkp⟩
  have HKP := Lib.hid hkp
  clear hkp
  go_wp2_with fail
  go_end0
  obtain ⟨O2, h1, h2⟩ := HKP.out
  have hh : KeepPost W4 g O n (rset rs key ⟨false, [], r.home, r.count⟩) (.returned x) w5 := ⟨⟨_, rfl⟩, O2, h1, h2⟩
  obtain ⟨_, O3, h3, h4⟩ := hh.boxed HF2.out HX4.out HPW.out
  exact ⟨⟨_, rfl⟩, O3, h3, h4⟩
end Go.Proofs.Ytkdcacajacndmaa

namespace Go.Proofs.Ytkdcacajacndmaa
open Go.RowKit
/-- what a Move answers, and what it leaves. -/
def moveE (n : Nat) (rs : List Rw) (key : Bs) (home : Int) : Int := if home < 0 ∨ (n : Int) ≤ home then 1 else if (rget n rs key).count = 18446744073709551615 then 111 else 0
def moveR (n : Nat) (rs : List Rw) (key : Bs) (home : Int) : List Rw :=
  if moveE n rs key home = 0 then rset rs key ⟨(rget n rs key).has, (rget n rs key).val, home, (rget n rs key).count + 1⟩ else rs
def MovePost [Ex] (w : World) (g : Nat) (O : Nat → Prop) (n : Nat) (rs : List Rw) (key : Bs) (home : Int) (e : Ending) (w' : World) : Prop :=
  e = .returned (.int .i64 (moveE n rs key home)) ∧ ∃ O', Store w' g O' n (moveR n rs key home) ∧ Stp w w' O O'
theorem Store.stay [Ex] {w w' : World} {g n : Nat} {O : Nat → Prop} {rs : List Rw} (h : Store w g O n rs) (hf : Fr NoBlk w w') : ∃ O', Store w' g O' n rs ∧ Stp w w' O O' :=
  ⟨O, h.nofr hf, ⟨hf.mono fun _ _ e => e.elim, fun _b hb => .inl hb⟩⟩
set_option maxRecDepth 100000 in
set_option maxHeartbeats 1000000 in
theorem smove_any [Ex] (w : World) (g : Nat) (O : Nat → Prop) (n : Nat) (rs : List Rw) (h : Store w g O n rs) (hlen : rs.length ≤ 99999) (key : Bs) (hk : key.length ≤ 1000000000) (home : Int) :
    Calls Try.prog 29 #[.pointer (some ⟨g, 0, none⟩), .string (bstr key), .int .i64 home] w (MovePost w g O n rs key home) := by
  have hE0 : ∀ r, r = rget n rs key → moveE n rs key home = if home < 0 ∨ (n : Int) ≤ home then 1 else if r.count = 18446744073709551615 then 111 else 0 := fun r e => by rw [e]; rfl
  have hR0 : ∀ r, r = rget n rs key → moveR n rs key home = if moveE n rs key home = 0 then rset rs key ⟨r.has, r.val, home, r.count + 1⟩ else rs := fun r e => by rw [e]; rfl
  unfold MovePost
  have HE := Lib.hid (hE0 _ rfl)
  have HRR := Lib.hid (hR0 _ rfl)
  clear hE0 hR0
  have HRC := Lib.hid (srecord_any w g O n rs h key hk)
  obtain ⟨r, hr⟩ : ∃ r, r = rget n rs key := ⟨_, rfl⟩
  rw [← hr] at HRC HE HRR
  have HST := Lib.hid h
  have HLEN := Lib.hid hlen
  have HCT : Hid (r.count < 2 ^ 64) := by
    show _ < _
    rw [hr]
    exact rget_cnt h.cnt
  clear h hlen hk hr
  go_enter Try.func29, Try.ntmps29
  go_wp2_with fail
  refine HRC.out.mono ?_
  clear HRC
  rintro e w1 ⟨v, rfl, hrd, hf1⟩
  unfold vaR
  obtain ⟨p, hp⟩ : ∃ p, p = w1.heap.size := ⟨_, rfl⟩
  obtain ⟨w2, hw2⟩ : ∃ W, W = w1.alloc (.cells #[.bool v.has, .slice v.va v.vn v.vc, .int .i64 v.home, .int .u64 (v.count : Int)] 38) := ⟨_, rfl⟩
  have hf2 : Fr NoBlk w w2 := by rw [hw2]; exact hf1.alloc _
  have HP2 : Hid (Bk w2 p 38 #[.bool v.has, .slice v.va v.vn v.vc, .int .i64 v.home, .int .u64 (v.count : Int)]) := by show Bk _ _ _ _; rw [hw2, hp]; exact Bk.new _ _ _
  have HRD := Lib.hid (hrd.nofr (show Fr NoBlk w1 w2 by rw [hw2]; exact (Fr.refl _ _).alloc _))
  have HF2 := Lib.hid hf2
  have HPW : Hid (w.heap.size ≤ p) := by show _ ≤ _; rw [hp]; exact hf1.size
  have HST2 := Lib.hid (HST.out.nofr hf2)
  have HGP : Hid (∀ b, O b → b < p) := fun b hb => by have := HST.out.lt hb; have := HPW.out; omega
  have HW2 := Lib.hid hw2
  have HP := Lib.hid hp
  clear hrd hf1 hf2 hp hw2
  go_upto_region 2 with fail
  rw [← HW2.out, ← HP.out]
  clear HW2 HP
  have c0 : w2.cell? ⟨g, 0, none⟩ = some (.int .i64 (n : Int)) := by obtain ⟨gt, OT, zs, hs, _⟩ := HST2.out; exact hs.bk.cell 0
  by_cases h0 : home < 0
  · have HEE : Hid (moveE n rs key home = 1) := HE.out.trans (if_pos (.inl h0))
    go_wp2_with fail
    go_ret
    refine ⟨by rw [HEE.out]; rfl, ?_⟩
    rw [HRR.out, HEE.out]
    exact HST.out.stay HF2.out
  by_cases hn : (n : Int) ≤ home
  · have HEE : Hid (moveE n rs key home = 1) := HE.out.trans (if_pos (.inr hn))
    go_wp2_with fail
    go_ret
    refine ⟨by rw [HEE.out]; rfl, ?_⟩
    rw [HRR.out, HEE.out]
    exact HST.out.stay HF2.out
  have a0 : w2.cell? ⟨p, 0, none⟩ = some (.bool v.has) := HP2.out.cell 0
  have a1 : w2.cell? ⟨p, 1, none⟩ = some (.slice v.va v.vn v.vc) := HP2.out.cell 1
  have a2 : w2.cell? ⟨p, 2, none⟩ = some (.int .i64 v.home) := HP2.out.cell 2
  have a3 : w2.cell? ⟨p, 3, none⟩ = some (.int .u64 (v.count : Int)) := HP2.out.cell 3
  by_cases hc : r.count = 18446744073709551615
  · have HEE : Hid (moveE n rs key home = 111) := HE.out.trans ((if_neg (by omega)).trans (if_pos hc))
    have hcv : (v.count : Int) = 18446744073709551615 := by rw [HRD.out.count, hc]; rfl
    have HNN : Hid (¬ home < 0 ∧ ¬ (n : Int) ≤ home) := ⟨h0, hn⟩
    have hcb : ((v.count : Int) == 18446744073709551615) = true := by rw [hcv]; rfl
    go_wp2_with fail
    go_ret
    refine ⟨by rw [HEE.out]; rfl, ?_⟩
    rw [HRR.out, HEE.out]
    exact HST.out.stay HF2.out
  have HEE : Hid (moveE n rs key home = 0) := HE.out.trans ((if_neg (by omega)).trans (if_neg hc))
  have hcv : ¬ v.count = 18446744073709551615 := by rw [HRD.out.count]; exact hc
  have hcb : ((v.count : Int) == 18446744073709551615) = false := beq_eq_false_iff_ne.2 (by omega)
  have hwr : ((v.count : Int) + 1) % 18446744073709551616 = (v.count : Int) + 1 := by have h1 := HRD.out.count; have h2 := HCT.out; omega
  have hwr2 : IntKind.u64.wrap ((v.count : Int) + 1) = (v.count : Int) + 1 := hwr
  have HC1 : Hid (r.count + 1 < 2 ^ 64) := by have h2 := HCT.out; show _ < _; omega
  obtain ⟨u, hu⟩ : ∃ u : VaR, u = ⟨v.has, v.va, v.vn, v.vc, home, v.count + 1⟩ := ⟨_, rfl⟩
  obtain ⟨W3, hW3⟩ : ∃ W, W = w2.setCell ⟨p, 2, none⟩ (.int .i64 home) := ⟨_, rfl⟩
  have hx3 : Fr (fun j => j = p) w2 W3 := by rw [hW3]; exact (Fr.refl (fun j => j = p) w2).setCell (p := ⟨p, 2, none⟩) (fun _ => rfl) _
  have HP3 : Hid (Bk W3 p 38 #[.bool v.has, .slice v.va v.vn v.vc, .int .i64 home, .int .u64 (v.count : Int)]) := by show Bk _ _ _ _; rw [hW3]; exact HP2.out.put 2 _
  obtain ⟨W4, hW4⟩ : ∃ W, W = W3.setCell ⟨p, 3, none⟩ (.int .u64 ((v.count : Int) + 1)) := ⟨_, rfl⟩
  have hx4 : Fr (fun j => j = p) w2 W4 := by rw [hW4]; exact hx3.setCell (p := ⟨p, 3, none⟩) (fun _ => rfl) _
  have HP4 : Hid (Bk W4 p 38 #[.bool u.has, .slice u.va u.vn u.vc, .int .i64 u.home, .int .u64 (u.count : Int)]) := by
    show Bk _ _ _ _
    rw [hW4, hu]
    have e1 : ((v.count + 1 : Nat) : Int) = (v.count : Int) + 1 := by omega
    dsimp only
    rw [e1]
    refine Bk.cast (HP3.out.put 3 (.int .u64 ((v.count : Int) + 1))) ?_
    simp only [List.setIfInBounds_toArray, List.set_cons_zero, List.set_cons_succ]
  have hnb : ∀ j, Byt w2 j → ¬ j = p := fun j hj e => Byt.no HP2.out (by decide) (e ▸ hj)
  have HKP := Lib.hid (keep_any W4 g O n rs (HST2.out.fr hx4 (fun b hb e => by have := HGP.out b hb; omega) hnb) HLEN.out key u ⟨r.has, r.val, home, r.count + 1⟩
    (by
      rw [hu]
      have h := HRD.out.fr hx4 hnb
      exact ⟨h.has, rfl, by show v.count + 1 = r.count + 1; rw [h.count], h.len, h.nil, h.rd, h.byt⟩) HC1.out)
  have HX4 := Lib.hid hx4
  have b2 := HP2.out.free 2
  have d3 : W3.cell? ⟨p, 3, none⟩ = some (.int .u64 (v.count : Int)) := HP3.out.cell 3
  have e3 := HP3.out.free 3
  have HW3 := Lib.hid hW3
  have HW4 := Lib.hid hW4
  have HWR := Lib.hid hwr
  have HNN : Hid (¬ home < 0 ∧ ¬ (n : Int) ≤ home) := ⟨h0, hn⟩
  have hn' : home < (n : Int) := by omega
  clear hu hW3 hW4 hx3 hx4 hnb hc hcv hn hwr
  go_upto_region 7 with fail
  rw [← HW3.out]
  clear HW3 c0 a0 a1 a2 a3 b2
  go_upto_region 8 with fail
  rw [← HW4.out]
  clear HW4 d3 e3
  have a0 : W4.cell? ⟨p, 0, none⟩ = some (.bool u.has) := HP4.out.cell 0
  have a1 : W4.cell? ⟨p, 1, none⟩ = some (.slice u.va u.vn u.vc) := HP4.out.cell 1
  have a2 : W4.cell? ⟨p, 2, none⟩ = some (.int .i64 u.home) := HP4.out.cell 2
  have a3 : W4.cell? ⟨p, 3, none⟩ = some (.int .u64 (u.count : Int)) := HP4.out.cell 3
  unfold vaR at HKP
  go_wp2_with fail
  refine HKP.out.mono ?_
  clear HKP
  rintro e w5 ⟨⟨x, rfl⟩, hkp⟩
  have HKP := Lib.hid hkp
  clear hkp
  go_wp2_with fail
  go_ret
  obtain ⟨O2, h1, h2⟩ := HKP.out
  have hh : KeepPost W4 g O n (rset rs key ⟨r.has, r.val, home, r.count + 1⟩) (.returned x) w5 := ⟨⟨_, rfl⟩, O2, h1, h2⟩
  obtain ⟨_, O3, h3, h4⟩ := hh.boxed HF2.out HX4.out HPW.out
  refine ⟨by rw [HEE.out]; rfl, O3, ?_, h4⟩
  rw [HRR.out, if_pos HEE.out]
  exact h3
end Go.Proofs.Ytkdcacajacndmaa
