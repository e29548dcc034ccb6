/- A key's record, a copy of a record, Get; is a record a row? Conditions: a key of at most 10^9 bytes. -/
import Derived.Test.YtfifpgefdcgbgaaSt1
namespace Go.Proofs.Ytfifpgefdcgbgaa
open Go.RowKit
theorem results_cellQ {fn : Func} {p : Tmp} {t : TypeId} (h : fn.results = #[.cell p t]) (tmps : Array Value) (P : Program) (w : World) :
    (results fn tmps).run P w = ((asAddr (tmps.getD p undef)).run P w).andThen fun a w₁ => (loadVar t a).run P w₁ := by
  simp only [results, h]
  simp [Sem.run_bind, Result.andThen]
def vaR (v : VaR) : Value := .agg #[.bool v.has, .slice v.va v.vn v.vc, .int .i64 v.home, .int .u64 (v.count : Int)]
def RecPost (w : World) (r : Rec) (e : Ending) (w' : World) : Prop := ∃ v, e = .returned (vaR v) ∧ Reads w' v r ∧ Fr NoBlk w w'
set_option maxRecDepth 100000 in
set_option maxHeartbeats 1000000 in
theorem srecord_any (w : World) (g : Nat) (O : Nat → Prop) (n : Nat) (rs : List Rw) (h : Store w g O n rs) (key : Bs) (hk : key.length ≤ 1000000000) :
    Calls Try.prog 38 #[.pointer (some ⟨g, 0, none⟩), .string (bstr key)] w (RecPost w (rget n rs key)) := by
  obtain ⟨gt, OT, zs, hs, rfl⟩ := h
  obtain ⟨q, hq⟩ : ∃ q, q = w.heap.size := ⟨_, rfl⟩
  obtain ⟨w0, hw0⟩ : ∃ w0, w0 = w.alloc (.cells #[.bool false, .slice none 0 0, .int .i64 0, .int .u64 0] 38) := ⟨_, rfl⟩
  have hf0 : Fr NoBlk w w0 := by rw [hw0]; exact (Fr.refl _ _).alloc _
  have HQ0 : Hid (Bk w0 q 38 #[.bool false, .slice none 0 0, .int .i64 0, .int .u64 0]) := by show Bk _ _ _ _; rw [hw0, hq]; exact Bk.new _ _ _
  have HS0 := Lib.hid (hs.fr hf0 (fun _ _ e => e) fun _ _ e => e)
  have HQ := Lib.hid hq
  have HGQ : Hid (g < q) := by show _ < _; rw [hq]; exact hs.bk.lt
  have HW0 := Lib.hid hw0
  have HF0 := Lib.hid hf0
  have HK := Lib.hid hk
  have c1 : w0.cell? ⟨g, 1, none⟩ = some (.pointer (some ⟨gt, 0, none⟩)) := HS0.out.bk.cell 1
  clear hs hq hw0 hf0 hk
  go_enter Try.func38, Try.ntmps38
  go_upto_region 1 with fail
  rw [← HW0.out, ← HQ.out]
  clear HW0
  go_wp2_with fail
  refine (treeGetR_any w0 gt OT (vz zs) HS0.out.tr key).mono ?_
  rintro e w1 ⟨v, had, rfl, hlk, hf1⟩
  have HLK := Lib.hid hlk
  have HF1 := Lib.hid hf1
  obtain ⟨p, hp⟩ : ∃ p, p = w1.heap.size := ⟨_, rfl⟩
  obtain ⟨w2, hw2⟩ : ∃ W, W = w1.alloc (.cells #[.bool v.has, .slice v.va v.vn v.vc, .int .i64 v.home, .int .u64 (v.count : Int)] 38) := ⟨_, rfl⟩
  have hf2 : Fr NoBlk w1 w2 := by rw [hw2]; exact (Fr.refl _ _).alloc _
  have HP2 : Hid (Bk w2 p 38 #[.bool v.has, .slice v.va v.vn v.vc, .int .i64 v.home, .int .u64 (v.count : Int)]) := by show Bk _ _ _ _; rw [hw2, hp]; exact Bk.new _ _ _
  have HQ2 : Hid (Bk w2 q 38 #[.bool false, .slice none 0 0, .int .i64 0, .int .u64 0]) := (HQ0.out.fr hf1 fun e => e).fr hf2 fun e => e
  have HS2 := Lib.hid ((HS0.out.fr hf1 (fun _ _ e => e) fun _ _ e => e).fr hf2 (fun _ _ e => e) fun _ _ e => e)
  have HF02 : Hid (Fr NoBlk w w2) := (HF0.out.trans hf1).trans hf2
  have HPQ : Hid (q < p ∧ w.heap.size = q) := ⟨by rw [hp]; exact (HQ0.out.fr hf1 fun e => e).lt, HQ.out.symm⟩
  have HW2 := Lib.hid hw2
  have HP := Lib.hid hp
  clear hlk hf1 hf2 hp hw2 c1 HQ
  cases had with
  | true =>
    have HR : Hid (Reads w2 v (rget n (rz zs) key)) := by
      obtain ⟨z, hz, e⟩ := List.mem_map.1 HLK.out.some_of
      obtain ⟨k, v', r⟩ := z
      injection e with e1 e2
      have e1' : k = key := e1
      have e2' : v' = v := e2
      subst e1' e2'
      show Reads _ _ _
      rw [rget_yes (rz_up HS0.out.tr.up) (List.mem_map.2 ⟨_, hz, rfl⟩)]
      exact HS2.out.rd _ hz
    go_upto_region 2 with fail
    rw [← HW2.out, ← HP.out]
    clear HW2 HP
    have a0 : w2.cell? ⟨p, 0, none⟩ = some (.bool v.has) := HP2.out.cell 0
    have a1 : w2.cell? ⟨p, 1, none⟩ = some (.slice v.va v.vn v.vc) := HP2.out.cell 1
    have a2 : w2.cell? ⟨p, 2, none⟩ = some (.int .i64 v.home) := HP2.out.cell 2
    have a3 : w2.cell? ⟨p, 3, none⟩ = some (.int .u64 (v.count : Int)) := HP2.out.cell 3
    have z0 : w2.cell? ⟨q, 0, none⟩ = some (.bool false) := HQ2.out.cell 0
    have z1 : w2.cell? ⟨q, 1, none⟩ = some (.slice none 0 0) := HQ2.out.cell 1
    have z2 : w2.cell? ⟨q, 2, none⟩ = some (.int .i64 0) := HQ2.out.cell 2
    have z3 : w2.cell? ⟨q, 3, none⟩ = some (.int .u64 0) := HQ2.out.cell 3
    have zf0 := HQ2.out.free 0
    have zf1 := HQ2.out.free 1
    have zf2 := HQ2.out.free 2
    have zf3 := HQ2.out.free 3
    obtain ⟨W4, hW4⟩ : ∃ W, W = ((((w2).setCell ⟨q, 0, none⟩ (.bool v.has)).setCell ⟨q, 1, none⟩ (.slice v.va v.vn v.vc)).setCell ⟨q, 2, none⟩ (.int .i64 v.home)).setCell ⟨q, 3, none⟩ (.int .u64 (v.count : Int)) := ⟨_, rfl⟩
    have hxW4 : Fr (fun k => k = q) w2 W4 := by
      rw [hW4]
      exact ((((Fr.refl (fun k => k = q) w2).setCell (p := ⟨q, 0, none⟩) (fun _ => rfl) _).setCell (p := ⟨q, 1, none⟩) (fun _ => rfl) _).setCell (p := ⟨q, 2, none⟩) (fun _ => rfl) _).setCell (p := ⟨q, 3, none⟩) (fun _ => rfl) _
    have HBW4 : Hid (Bk W4 q 38 #[.bool v.has, .slice v.va v.vn v.vc, .int .i64 v.home, .int .u64 (v.count : Int)]) := by
      show Bk _ _ _ _
      rw [hW4]
      refine Bk.cast (((((HQ2.out).put 0 (.bool v.has)).put 1 (.slice v.va v.vn v.vc)).put 2 (.int .i64 v.home)).put 3 (.int .u64 (v.count : Int))) ?_
      simp only [List.setIfInBounds_toArray, List.set_cons_zero, List.set_cons_succ]
    have HW4 := Lib.hid hW4
    have HX4 := Lib.hid hxW4
    clear hW4 hxW4
    go_wp2_with fail
    rw [← HW4.out]
    clear HW4
    have r0 : W4.cell? ⟨q, 0, none⟩ = some (.bool v.has) := HBW4.out.cell 0
    have r1 : W4.cell? ⟨q, 1, none⟩ = some (.slice v.va v.vn v.vc) := HBW4.out.cell 1
    have r2 : W4.cell? ⟨q, 2, none⟩ = some (.int .i64 v.home) := HBW4.out.cell 2
    have r3 : W4.cell? ⟨q, 3, none⟩ = some (.int .u64 (v.count : Int)) := HBW4.out.cell 3
    refine bodyPost_ret (v := vaR v) (by rw [results_cellQ rfl]; go_simp; rfl) rfl ?_
    exact ⟨v, rfl, HR.out.fr HX4.out fun k hk e => Byt.no HQ2.out (by decide) (e ▸ hk), HF02.out.step HX4.out fun i hi e => by have := HPQ.out; omega⟩
  | false =>
    obtain rfl : v = (VaR.mk false none 0 0 0 0 : VaR) := by
      rcases HLK.out with ⟨e, _⟩ | ⟨_, e, _⟩
      · cases e
      · exact e
    have HR : Hid (rget n (rz zs) key = ⟨false, [], homeOf key n, 0⟩) := rget_no fun r hr => by
      obtain ⟨z, hz, e⟩ := List.mem_map.1 hr
      obtain ⟨k, v', r'⟩ := z
      injection e with e1 e2
      have e1' : k = key := e1
      subst e1'
      exact HLK.out.none_of v' (List.mem_map.2 ⟨_, hz, rfl⟩)
    go_upto_region 2 with fail
    rw [← show w2 = w1.alloc (.cells #[.bool false, .slice none 0 0, .int .i64 0, .int .u64 0] 38) from HW2.out, ← HP.out]
    clear HW2 HP
    have c0 : w2.cell? ⟨g, 0, none⟩ = some (.int .i64 (n : Int)) := HS2.out.bk.cell 0
    obtain ⟨hm, hhm⟩ : ∃ hm, hm = homeOf key n := ⟨_, rfl⟩
    have HDF := Lib.hid (default_any w2 key n HK.out)
    rw [← hhm] at HDF
    have HHM := Lib.hid hhm
    obtain ⟨v, hv⟩ : ∃ v : VaR, v = ⟨false, none, 0, 0, hm, 0⟩ := ⟨_, rfl⟩
    obtain ⟨W3, hW3⟩ : ∃ W, W = w2.setCell ⟨p, 2, none⟩ (.int .i64 hm) := ⟨_, rfl⟩
    have hx3 : Fr (fun k => k = p) w2 W3 := by rw [hW3]; exact (Fr.refl (fun k => k = p) w2).setCell (p := ⟨p, 2, none⟩) (fun _ => rfl) _
    have HP3 : Hid (Bk W3 p 38 #[.bool v.has, .slice v.va v.vn v.vc, .int .i64 v.home, .int .u64 (v.count : Int)]) := by show Bk _ _ _ _; rw [hW3, hv]; exact HP2.out.put 2 _
    have HQ3 : Hid (Bk W3 q 38 #[.bool false, .slice none 0 0, .int .i64 0, .int .u64 0]) := HQ2.out.fr hx3 (by have := HPQ.out; omega)
    have pf := HP2.out.free 2
    have pc : w2.cell? ⟨p, 2, none⟩ = some (.int .i64 0) := HP2.out.cell 2
    have HW3 := Lib.hid hW3
    have HX3 := Lib.hid hx3
    have HV := Lib.hid hv
    clear hhm hW3 hx3 hv
    go_wp2_with fail
    refine HDF.out.mono ?_
    rintro e w9 ⟨rfl, rfl⟩
    clear HDF
    go_upto_region 4 with fail
    rw [← HW3.out]
    clear HW3 c0 pf pc
    have a0 : W3.cell? ⟨p, 0, none⟩ = some (.bool v.has) := HP3.out.cell 0
    have a1 : W3.cell? ⟨p, 1, none⟩ = some (.slice v.va v.vn v.vc) := HP3.out.cell 1
    have a2 : W3.cell? ⟨p, 2, none⟩ = some (.int .i64 v.home) := HP3.out.cell 2
    have a3 : W3.cell? ⟨p, 3, none⟩ = some (.int .u64 (v.count : Int)) := HP3.out.cell 3
    have z0 : W3.cell? ⟨q, 0, none⟩ = some (.bool false) := HQ3.out.cell 0
    have z1 : W3.cell? ⟨q, 1, none⟩ = some (.slice none 0 0) := HQ3.out.cell 1
    have z2 : W3.cell? ⟨q, 2, none⟩ = some (.int .i64 0) := HQ3.out.cell 2
    have z3 : W3.cell? ⟨q, 3, none⟩ = some (.int .u64 0) := HQ3.out.cell 3
    have zf0 := HQ3.out.free 0
    have zf1 := HQ3.out.free 1
    have zf2 := HQ3.out.free 2
    have zf3 := HQ3.out.free 3
    obtain ⟨W4, hW4⟩ : ∃ W, W = ((((W3).setCell ⟨q, 0, none⟩ (.bool v.has)).setCell ⟨q, 1, none⟩ (.slice v.va v.vn v.vc)).setCell ⟨q, 2, none⟩ (.int .i64 v.home)).setCell ⟨q, 3, none⟩ (.int .u64 (v.count : Int)) := ⟨_, rfl⟩
    have hxW4 : Fr (fun k => k = q) W3 W4 := by
      rw [hW4]
      exact ((((Fr.refl (fun k => k = q) W3).setCell (p := ⟨q, 0, none⟩) (fun _ => rfl) _).setCell (p := ⟨q, 1, none⟩) (fun _ => rfl) _).setCell (p := ⟨q, 2, none⟩) (fun _ => rfl) _).setCell (p := ⟨q, 3, none⟩) (fun _ => rfl) _
    have HBW4 : Hid (Bk W4 q 38 #[.bool v.has, .slice v.va v.vn v.vc, .int .i64 v.home, .int .u64 (v.count : Int)]) := by
      show Bk _ _ _ _
      rw [hW4]
      refine Bk.cast (((((HQ3.out).put 0 (.bool v.has)).put 1 (.slice v.va v.vn v.vc)).put 2 (.int .i64 v.home)).put 3 (.int .u64 (v.count : Int))) ?_
      simp only [List.setIfInBounds_toArray, List.set_cons_zero, List.set_cons_succ]
    have HW4 := Lib.hid hW4
    have HX4 := Lib.hid hxW4
    clear hW4 hxW4
    go_wp2_with fail
    rw [← HW4.out]
    clear HW4
    have r0 : W4.cell? ⟨q, 0, none⟩ = some (.bool v.has) := HBW4.out.cell 0
    have r1 : W4.cell? ⟨q, 1, none⟩ = some (.slice v.va v.vn v.vc) := HBW4.out.cell 1
    have r2 : W4.cell? ⟨q, 2, none⟩ = some (.int .i64 v.home) := HBW4.out.cell 2
    have r3 : W4.cell? ⟨q, 3, none⟩ = some (.int .u64 (v.count : Int)) := HBW4.out.cell 3
    refine bodyPost_ret (v := vaR v) (by rw [results_cellQ rfl]; go_simp; rfl) rfl ?_
    refine ⟨v, rfl, ?_, (HF02.out.step HX3.out fun i hi e => by have := HPQ.out; omega).step HX4.out fun i hi e => by have := HPQ.out; omega⟩
    rw [HR.out, HV.out, HHM.out]
    exact ⟨rfl, rfl, rfl, rfl, fun _ => rfl, Rd.none_ _ _, fun k hk => by obtain ⟨x, hx, _⟩ := hk; cases hx⟩
end Go.Proofs.Ytfifpgefdcgbgaa
