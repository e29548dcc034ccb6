/- takeLast: the greatest item at or below a node is taken out. Conditions: as the tree's shape has them. -/
import Derived.Test.YtkdcacajacndmaaN13R
import Derived.Test.YtkdcacajacndmaaP7

namespace Go.Proofs.Ytkdcacajacndmaa
open Go.RowKit
theorem results_cell1 {fn : Func} {p : Tmp} {t : TypeId} (h : fn.results = #[.cell p t]) (tmps : Array Value) (P : Program) (w : World) :
    (results fn tmps).run P w = ((asAddr (tmps.getD p undef)).run P w).andThen fun a w₁ => (loadVar t a).run P w₁ := by
  simp only [results, h]
  simp [Sem.run_bind, Result.andThen]
def TakeLRPost (w : World) {d : Nat} (t : Tr ItR d) (e : Ending) (w' : World) : Prop :=
  ∃ (x : ItR) (t' : Tr ItR d) (P : List ItR), e = .returned (.agg #[.string (bstr x.1), .bool x.2.has, .slice x.2.va x.2.vn x.2.vc, .int .i64 x.2.home, .int .u64 (x.2.count : Int)]) ∧ t.flat = P ++ [x] ∧ t'.flat = P ∧ t'.ok tkR w' ∧ t'.g = t.g ∧ t'.n ≤ t.n ∧ t.n ≤ t'.n + 1 ∧ Stp w w' t.own t'.own
set_option maxRecDepth 100000 in
set_option maxHeartbeats 1000000 in
theorem takeLastR_any : ∀ {d : Nat} (w : World) (t : Tr ItR d), t.ok tkR w → 1 ≤ t.n → t.n ≤ 16 → Calls Try.prog 91 #[.pointer (some ⟨t.g, 0, none⟩)] w (TakeLRPost w t) := by
  intro d
  induction d with
  | zero =>
    intro w t o h1 h16
    obtain ⟨hg, hA, hc, hB, he, hxs⟩ := t
    have h1' : 1 ≤ hxs.length := h1
    have h16' : hxs.length ≤ 16 := h16
    obtain ⟨li, ⟨xk, xv⟩, rfl⟩ := last_of (xs := hxs) (by omega)
    obtain ⟨k, hk⟩ : ∃ k, k = li.length := ⟨_, rfl⟩
    have hlk : (li ++ [(xk, xv)]).length = k + 1 := by rw [List.length_append, hk]; rfl
    rw [hlk] at h16'
    have hl : (Hd.mk hg hA hc hB he (li ++ [(xk, xv)])).lies tkR w [] := o.lies
    obtain ⟨b1, b2, b3⟩ := hl
    have hl : (Hd.mk hg hA hc hB he (li ++ [(xk, xv)])).lies tkR w [] := o.lies
    unfold tkR at b1 b2 b3
    dsimp only at b1 b2 b3
    rw [hlk] at b1 b2
    obtain ⟨la, rfl⟩ := b2.addr (by omega)
    have hf1 : Fr NoBlk w ((w.alloc (.cells #[(Value.string { data := #[] }), .bool false, .slice none 0 0, .int .i64 0, .int .u64 0] 124)).alloc (.cells #[.string (bstr xk), .bool xv.has, .slice xv.va xv.vn xv.vc, .int .i64 xv.home, .int .u64 (xv.count : Int)] 124)) := ((Fr.refl _ _).alloc _).alloc _
    obtain ⟨w1, hw1⟩ : ∃ w1, w1 = (w.alloc (.cells #[(Value.string { data := #[] }), .bool false, .slice none 0 0, .int .i64 0, .int .u64 0] 124)).alloc (.cells #[.string (bstr xk), .bool xv.has, .slice xv.va xv.vn xv.vc, .int .i64 xv.home, .int .u64 (xv.count : Int)] 124) := ⟨_, rfl⟩
    have hz1 : w1.heap.size = w.heap.size + 2 := by rw [hw1]; simp
    rw [← hw1] at hf1
    have hxk : (li ++ [(xk, xv)])[k]? = some (xk, xv) := by rw [hk, List.getElem?_append_right (Nat.le_refl _), Nat.sub_self]; rfl
    have c0 : (w.alloc (.cells #[(Value.string { data := #[] }), .bool false, .slice none 0 0, .int .i64 0, .int .u64 0] 124)).cell? ⟨hg, 0, none⟩ = some (.slice (some ⟨la, 0, none⟩) (k + 1 : Nat) hc) := (b1.alloc _).cell 0
    have x0 : (w.alloc (.cells #[(Value.string { data := #[] }), .bool false, .slice none 0 0, .int .i64 0, .int .u64 0] 124)).cell? ⟨la, k * 5, none⟩ = some (.string (bstr xk)) := ((b2.fr ((Fr.refl NoBlk w).alloc _) fun _ _ e => e).cellR hxk).1
    have x1 : (w.alloc (.cells #[(Value.string { data := #[] }), .bool false, .slice none 0 0, .int .i64 0, .int .u64 0] 124)).cell? ⟨la, k * 5 + 1, none⟩ = some (.bool xv.has) := ((b2.fr ((Fr.refl NoBlk w).alloc _) fun _ _ e => e).cellR hxk).2.1
    have x1x1 : (w.alloc (.cells #[(Value.string { data := #[] }), .bool false, .slice none 0 0, .int .i64 0, .int .u64 0] 124)).cell? ⟨la, k * 5 + 2, none⟩ = some (.slice xv.va xv.vn xv.vc) := ((b2.fr ((Fr.refl NoBlk w).alloc _) fun _ _ e => e).cellR hxk).2.2.1
    have x1x2 : (w.alloc (.cells #[(Value.string { data := #[] }), .bool false, .slice none 0 0, .int .i64 0, .int .u64 0] 124)).cell? ⟨la, k * 5 + 3, none⟩ = some (.int .i64 xv.home) := ((b2.fr ((Fr.refl NoBlk w).alloc _) fun _ _ e => e).cellR hxk).2.2.2.1
    have x1x3 : (w.alloc (.cells #[(Value.string { data := #[] }), .bool false, .slice none 0 0, .int .i64 0, .int .u64 0] 124)).cell? ⟨la, k * 5 + 4, none⟩ = some (.int .u64 (xv.count : Int)) := ((b2.fr ((Fr.refl NoBlk w).alloc _) fun _ _ e => e).cellR hxk).2.2.2.2
    have c1 : ((w.alloc (.cells #[(Value.string { data := #[] }), .bool false, .slice none 0 0, .int .i64 0, .int .u64 0] 124)).alloc (.cells #[.string (bstr xk), .bool xv.has, .slice xv.va xv.vn xv.vc, .int .i64 xv.home, .int .u64 (xv.count : Int)] 124)).cell? ⟨hg, 0, none⟩ = some (.slice (some ⟨la, 0, none⟩) (k + 1 : Nat) hc) := ((b1.alloc _).alloc _).cell 0
    have HLF : Hid (Calls Try.prog 72 #[.pointer (some ⟨hg, 0, none⟩)] (w.alloc (.cells #[(Value.string { data := #[] }), .bool false, .slice none 0 0, .int .i64 0, .int .u64 0] 124)) fun en w' => en = .returned (.bool true) ∧ (w.alloc (.cells #[(Value.string { data := #[] }), .bool false, .slice none 0 0, .int .i64 0, .int .u64 0] 124)) = w') := leafR_any _ hg _ (k + 1) hc hB 0 he (b1.alloc _)
    have HDEL : Hid (Calls Try.prog 90 #[.slice (some ⟨la, 0, none⟩) (k + 1 : Nat) hc, .int .i64 (k : Int), .int .i64 ((k : Int) + 1)] w1 fun en w' => en = .returned (.slice (some ⟨la, 0, none⟩) k hc) ∧ RowW w' 0 124 5 (.slice (some ⟨la, 0, none⟩) k hc) k (itsR li) ∧ Fr (fun j => j = la) w1 w') := by
      have h := delIR_any w1 0 la (k + 1) hc k (itsR (li ++ [(xk, xv)])) (b2.fr hf1 fun _ _ e => e) (Nat.lt_succ_self k) (by omega)
      rw [← itsR_take, ← itsR_drop, List.drop_eq_nil_of_le (by rw [hlk]; exact Nat.le_refl _), hk, List.take_left, show itsR [] = [] from rfl, List.append_nil] at h
      rw [hk]
      exact h
    have hwk : IntKind.i64.wrap (k : Int) = (k : Int) := IntWalk.i64_in _ (by omega)
    have hwk1 : IntKind.i64.wrap ((k : Int) + 1) = (k : Int) + 1 := IntWalk.i64_in _ (by omega)
    have hkk : k < k + 1 := Nat.lt_succ_self k
    have HO := Lib.hid o
    have HL1 : Hid ((Hd.mk hg (some ⟨la, 0, none⟩) hc hB he (li ++ [(xk, xv)])).lies tkR w1 []) := hl.fr hf1 fun _ _ e => e
    have HK := Lib.hid hk
    have HF1 := Lib.hid hf1
    have HZ1 := Lib.hid hz1
    have HB1 : Hid (Bk w1 hg 102 #[.slice (some ⟨la, 0, none⟩) (k + 1) hc, .slice hB 0 he] ∧ hg ≠ la) := ⟨b1.fr hf1 fun e => e, fun e => b2.ne_ b1 (by decide) ⟨_, rfl, e.symm⟩⟩
    have HX1 : Hid (Bk w1 w.heap.size 124 #[(Value.string { data := #[] }), .bool false, .slice none 0 0, .int .i64 0, .int .u64 0] ∧ Bk w1 (w.heap.size + 1) 124 #[.string (bstr xk), .bool xv.has, .slice xv.va xv.vn xv.vc, .int .i64 xv.home, .int .u64 (xv.count : Int)]) := by
      show _ ∧ _
      rw [hw1]
      refine ⟨(Bk.new _ _ _).alloc _, ?_⟩
      have h := Bk.new (w.alloc (.cells #[(Value.string { data := #[] }), .bool false, .slice none 0 0, .int .i64 0, .int .u64 0] 124)) 124 #[.string (bstr xk), .bool xv.has, .slice xv.va xv.vn xv.vc, .int .i64 xv.home, .int .u64 (xv.count : Int)]
      rwa [World.size_alloc] at h
    have HLT : Hid (hg < w.heap.size ∧ la < w.heap.size) := ⟨b1.lt, (b2.lt (k := la) rfl).2⟩
    clear b1 b2 b3 o hl hf1 hk hlk hz1 hxk h1 h16 h1' h16'
    show Calls _ _ #[.pointer (some ⟨hg, 0, none⟩)] _ _
    go_enter Try.func91, Try.ntmps91
    go_wp2_with fail
    refine HLF.out.mono ?_
    rintro e w0 ⟨rfl, rfl⟩
    clear HLF
    go_wp2_with fail
    rw [← hw1]
    clear hw1 c0 x0 x1 x1x3 x1x2 x1x1 c1
    refine HDEL.out.mono ?_
    clear HDEL
    rintro e w2 ⟨rfl, hr2, hf2⟩
    have hset := Hd.setI tkAR HL1.out (A' := some ⟨la, 0, none⟩) (c' := hc) (n' := k) (xs' := li) HK.out hr2 (hf2.mono fun b _ e => ⟨_, rfl, e.symm⟩) (fun b hb => .inl hb)
    have HS := Lib.hid hset
    have HB2 : Hid (Bk w2 hg 102 #[.slice (some ⟨la, 0, none⟩) (k + 1) hc, .slice hB 0 he]) := HB1.out.1.fr hf2 HB1.out.2
    have HX2 : Hid (Bk w2 w.heap.size 124 #[(Value.string { data := #[] }), .bool false, .slice none 0 0, .int .i64 0, .int .u64 0] ∧ Bk w2 (w.heap.size + 1) 124 #[.string (bstr xk), .bool xv.has, .slice xv.va xv.vn xv.vc, .int .i64 xv.home, .int .u64 (xv.count : Int)]) := ⟨HX1.out.1.fr hf2 fun e => by have := HLT.out; omega, HX1.out.2.fr hf2 fun e => by have := HLT.out; omega⟩
    have HX3 : Hid (Bk (w2.setCell ⟨hg, 0, none⟩ (.slice (some ⟨la, 0, none⟩) k hc)) w.heap.size 124 #[(Value.string { data := #[] }), .bool false, .slice none 0 0, .int .i64 0, .int .u64 0] ∧ Bk (w2.setCell ⟨hg, 0, none⟩ (.slice (some ⟨la, 0, none⟩) k hc)) (w.heap.size + 1) 124 #[.string (bstr xk), .bool xv.has, .slice xv.va xv.vn xv.vc, .int .i64 xv.home, .int .u64 (xv.count : Int)]) := ⟨HX2.out.1.far (p := ⟨hg, 0, none⟩) (by have := HLT.out; show w.heap.size ≠ hg; omega) _, HX2.out.2.far (p := ⟨hg, 0, none⟩) (by have := HLT.out; show w.heap.size + 1 ≠ hg; omega) _⟩
    have c2 := HB2.out.cell 0
    have f2 := HB2.out.free 0
    have y0 := HX3.out.2.cell 0
    have y1 := HX3.out.2.cell 1
    have y2 := HX3.out.2.cell 2
    have y3 := HX3.out.2.cell 3
    have y4 := HX3.out.2.cell 4
    have r0 := HX3.out.1.cell 0
    have r1 := HX3.out.1.cell 1
    have r2 := HX3.out.1.cell 2
    have r3 := HX3.out.1.cell 3
    have r4 := HX3.out.1.cell 4
    have s0 := HX3.out.1.free 0
    have s1 := HX3.out.1.free 1
    have s2 := HX3.out.1.free 2
    have s3 := HX3.out.1.free 3
    have s4 := HX3.out.1.free 4
    clear hset hr2 hf2
    go_wp2_with fail
    have hf5 : Fr (fun i => i = w.heap.size) (w2.setCell ⟨hg, 0, none⟩ (.slice (some ⟨la, 0, none⟩) k hc)) (((((((w2.setCell ⟨hg, 0, none⟩ (.slice (some ⟨la, 0, none⟩) k hc))).setCell ⟨w.heap.size, 0, none⟩ (.string (bstr xk))).setCell ⟨w.heap.size, 1, none⟩ (.bool xv.has)).setCell ⟨w.heap.size, 2, none⟩ (.slice xv.va xv.vn xv.vc)).setCell ⟨w.heap.size, 3, none⟩ (.int .i64 xv.home)).setCell ⟨w.heap.size, 4, none⟩ (.int .u64 (xv.count : Int))) := (((((Fr.refl (fun i => i = w.heap.size) _).setCell (p := ⟨w.heap.size, 0, none⟩) (fun _ => rfl) _).setCell (p := ⟨w.heap.size, 1, none⟩) (fun _ => rfl) _).setCell (p := ⟨w.heap.size, 2, none⟩) (fun _ => rfl) _).setCell (p := ⟨w.heap.size, 3, none⟩) (fun _ => rfl) _).setCell (p := ⟨w.heap.size, 4, none⟩) (fun _ => rfl) _
    have hx5 : Bk (((((((w2.setCell ⟨hg, 0, none⟩ (.slice (some ⟨la, 0, none⟩) k hc))).setCell ⟨w.heap.size, 0, none⟩ (.string (bstr xk))).setCell ⟨w.heap.size, 1, none⟩ (.bool xv.has)).setCell ⟨w.heap.size, 2, none⟩ (.slice xv.va xv.vn xv.vc)).setCell ⟨w.heap.size, 3, none⟩ (.int .i64 xv.home)).setCell ⟨w.heap.size, 4, none⟩ (.int .u64 (xv.count : Int))) w.heap.size 124 #[.string (bstr xk), .bool xv.has, .slice xv.va xv.vn xv.vc, .int .i64 xv.home, .int .u64 (xv.count : Int)] := by
      refine Bk.cast (((((HX3.out.1.put 0 (.string (bstr xk))).put 1 (.bool xv.has)).put 2 (.slice xv.va xv.vn xv.vc)).put 3 (.int .i64 xv.home)).put 4 (.int .u64 (xv.count : Int))) ?_
      simp only [List.setIfInBounds_toArray, List.set_cons_zero, List.set_cons_succ]
    obtain ⟨W5, hW5⟩ : ∃ W5, W5 = ((((((w2.setCell ⟨hg, 0, none⟩ (.slice (some ⟨la, 0, none⟩) k hc))).setCell ⟨w.heap.size, 0, none⟩ (.string (bstr xk))).setCell ⟨w.heap.size, 1, none⟩ (.bool xv.has)).setCell ⟨w.heap.size, 2, none⟩ (.slice xv.va xv.vn xv.vc)).setCell ⟨w.heap.size, 3, none⟩ (.int .i64 xv.home)).setCell ⟨w.heap.size, 4, none⟩ (.int .u64 (xv.count : Int)) := ⟨_, rfl⟩
    rw [← hW5] at hf5 hx5 ⊢
    have v0 : W5.cell? ⟨w.heap.size, 0, none⟩ = some (.string (bstr xk)) := hx5.cell 0
    have v1 : W5.cell? ⟨w.heap.size, 1, none⟩ = some (.bool xv.has) := hx5.cell 1
    have v2 : W5.cell? ⟨w.heap.size, 2, none⟩ = some (.slice xv.va xv.vn xv.vc) := hx5.cell 2
    have v3 : W5.cell? ⟨w.heap.size, 3, none⟩ = some (.int .i64 xv.home) := hx5.cell 3
    have v4 : W5.cell? ⟨w.heap.size, 4, none⟩ = some (.int .u64 (xv.count : Int)) := hx5.cell 4
    refine bodyPost_ret (v := .agg #[.string (bstr xk), .bool xv.has, .slice xv.va xv.vn xv.vc, .int .i64 xv.home, .int .u64 (xv.count : Int)]) (by rw [results_cell1 rfl]; go_simp) rfl ?_
    have ho : ∀ b, (Hd.mk hg (some ⟨la, 0, none⟩) hc hB he li).own b → b < w.heap.size := fun b hb => HO.out.lt hb
    refine ⟨(xk, xv), .leaf ⟨hg, some ⟨la, 0, none⟩, hc, hB, he, li⟩, li, rfl, rfl, rfl, ⟨Hd.lies.fr HS.out.1 hf5 fun b h1 h2 => by have := ho b h1; omega, trivial, trivial⟩, rfl, ?_, ?_, ⟨?_, fun b hb => .inl hb⟩⟩
    · show li.length ≤ (li ++ [(xk, xv)]).length; rw [List.length_append]; exact Nat.le_add_right _ _
    · show (li ++ [(xk, xv)]).length ≤ li.length + 1; rw [List.length_append]; exact Nat.le_refl _
    · exact ((HF1.out.mono fun _ _ h => h.elim).step HS.out.2.1 fun b _ h => h).step hf5 fun b hb h => by omega
  | succ d ih =>
    intro w t o h1 h16
    obtain ⟨⟨hg, hA, hc, hB, he, hxs⟩, ks⟩ := t
    have h1' : 1 ≤ hxs.length := h1
    have h16' : hxs.length ≤ 16 := h16
    have hks : ks.length = hxs.length + 1 := o.shape.1
    obtain ⟨a, k, rfl⟩ := last_of (xs := ks) (by omega)
    obtain ⟨n, hnn⟩ : ∃ n, n = hxs.length := ⟨_, rfl⟩
    have han : a.length = n := by rw [List.length_append, List.length_singleton] at hks; omega
    have o' : (Tr.node ⟨hg, hA, hc, hB, he, hxs⟩ (a ++ [k] ++ [])).ok tkR w := by rw [List.append_nil]; exact o
    have hl : (Hd.mk hg hA hc hB he hxs).lies tkR w ((a ++ [k]).map Tr.g) := o.lies.1
    obtain ⟨b1, b2, b3⟩ := hl
    unfold tkR at b1 b2 b3
    dsimp only at b1 b2 b3
    obtain ⟨np, hnp⟩ : ∃ np, np = ((a ++ [k]).map Tr.g).length := ⟨_, rfl⟩
    rw [← hnn] at b1 b2
    rw [← hnp] at b1 b3
    have hnp1 : np = n + 1 := by rw [hnp, List.length_map, hks, hnn]
    obtain ⟨pb, rfl⟩ := b3.addr (by omega)
    subst hnp1
    have hkm : k ∈ a ++ [k] := by simp
    have hkid := o.kid hkm
    obtain ⟨w0, hw0⟩ : ∃ w0, w0 = w.alloc (.cells #[(Value.string { data := #[] }), .bool false, .slice none 0 0, .int .i64 0, .int .u64 0] 124) := ⟨_, rfl⟩
    have hf0 : Fr NoBlk w w0 := by rw [hw0]; exact (Fr.refl _ _).alloc _
    have hb0 : Bk w0 w.heap.size 124 #[(Value.string { data := #[] }), .bool false, .slice none 0 0, .int .i64 0, .int .u64 0] := by rw [hw0]; exact Bk.new _ _ _
    have hz0 : w0.heap.size = w.heap.size + 1 := by rw [hw0, World.size_alloc]
    have o0 : (Tr.node ⟨hg, hA, hc, some ⟨pb, 0, none⟩, he, hxs⟩ (a ++ [k] ++ [])).ok tkR w0 := o'.fr hf0 fun _ _ e => e
    have hIH := ih w0 k (hkid.1.fr hf0 fun _ _ e => e) (by have := hkid.2; omega) hkid.2.2
    have c1 : (w.alloc (.cells #[(Value.string { data := #[] }), .bool false, .slice none 0 0, .int .i64 0, .int .u64 0] 124)).cell? ⟨hg, 1, none⟩ = some (.slice (some ⟨pb, 0, none⟩) (n + 1 : Nat) he) := (b1.alloc _).cell 1
    have pk : (w.alloc (.cells #[(Value.string { data := #[] }), .bool false, .slice none 0 0, .int .i64 0, .int .u64 0] 124)).cell? ⟨pb, n, none⟩ = some (.pointer (some ⟨k.g, 0, none⟩)) := (b3.fr ((Fr.refl NoBlk w).alloc _) fun _ _ e => e).cellP (by rw [List.map_append, List.getElem?_append_right (by rw [List.length_map]; omega), List.length_map, han, Nat.sub_self]; rfl)
    have HLF : Hid (Calls Try.prog 72 #[.pointer (some ⟨hg, 0, none⟩)] (w.alloc (.cells #[(Value.string { data := #[] }), .bool false, .slice none 0 0, .int .i64 0, .int .u64 0] 124)) fun en w' => en = .returned (.bool false) ∧ (w.alloc (.cells #[(Value.string { data := #[] }), .bool false, .slice none 0 0, .int .i64 0, .int .u64 0] 124)) = w') := by
      have h := leafR_any _ hg hA n hc (some ⟨pb, 0, none⟩) (n + 1) he (b1.alloc (.cells #[(Value.string { data := #[] }), .bool false, .slice none 0 0, .int .i64 0, .int .u64 0] 124))
      rw [decide_eq_false (show ¬ n + 1 = 0 by omega)] at h
      exact h
    have HIH := Lib.hid hIH
    have HO0 := Lib.hid o0
    have HO' := Lib.hid o'
    have HK := Lib.hid (And.intro hkid.2 (And.intro han hnn))
    have HF0 := Lib.hid hf0
    have HB0 := Lib.hid hb0
    have HZ0 := Lib.hid hz0
    have H16 : Hid (1 ≤ hxs.length ∧ hxs.length ≤ 16) := ⟨h1', h16'⟩
    have hwn : IntKind.i64.wrap (n : Int) = (n : Int) := IntWalk.i64_in _ (by omega)
    have hn1 : n < n + 1 := Nat.lt_succ_self n
    obtain ⟨kg, hkg⟩ : ∃ g, g = k.g := ⟨_, rfl⟩
    rw [← hkg] at pk HIH
    have HKG := Lib.hid hkg
    clear b1 b2 b3 o o' hks hkm hkid hf0 hb0 hz0 o0 hIH ih h1 h16 h1' h16' hnp hnn han hkg
    show Calls _ _ #[.pointer (some ⟨hg, 0, none⟩)] _ _
    go_enter Try.func91, Try.ntmps91
    go_wp2_with fail
    refine HLF.out.mono ?_
    rintro e w9 ⟨rfl, rfl⟩
    clear HLF
    go_wp2_with fail
    rw [← hw0]
    refine HIH.out.mono ?_
    clear HIH c1 pk hw0
    rintro e w2 ⟨⟨xk, xv⟩, k', P, rfl, hkf, hkf', hok, hkg', hn1', hn2', hst⟩
    have hk8 := HK.out.1
    have hlk := Tr.lack_of (a := a) (b := []) HO0.out hok hkg' (by omega) (by omega) hst
    have hlt2 : ∀ b, (Tr.node ⟨hg, hA, hc, some ⟨pb, 0, none⟩, he, hxs⟩ (a ++ [k'] ++ [])).own b → b < w2.heap.size := fun b hb => Tr.lies_lt hlk.1.lies hb
    have hwo : ∀ b, (Tr.node ⟨hg, hA, hc, some ⟨pb, 0, none⟩, he, hxs⟩ (a ++ [k] ++ [])).own b → b < w.heap.size := fun b hb => HO'.out.lt hb
    have hR2 : Bk w2 w.heap.size 124 #[(Value.string { data := #[] }), .bool false, .slice none 0 0, .int .i64 0, .int .u64 0] := HB0.out.fr hst.fr fun h => by
      have := hwo w.heap.size (.inr ⟨k, by simp, h⟩); omega
    obtain ⟨w3, hw3⟩ : ∃ w3, w3 = w2.alloc (.cells #[.string (bstr xk), .bool xv.has, .slice xv.va xv.vn xv.vc, .int .i64 xv.home, .int .u64 (xv.count : Int)] 124) := ⟨_, rfl⟩
    have hf3 : Fr NoBlk w2 w3 := by rw [hw3]; exact (Fr.refl _ _).alloc _
    have hx3 : Bk w3 w2.heap.size 124 #[.string (bstr xk), .bool xv.has, .slice xv.va xv.vn xv.vc, .int .i64 xv.home, .int .u64 (xv.count : Int)] := by rw [hw3]; exact Bk.new _ _ _
    have hfill : Calls Try.prog 92 #[.pointer (some ⟨hg, 0, none⟩), .int .i64 (n : Int)] w3 (FillRPost w3 ⟨hg, hA, hc, some ⟨pb, 0, none⟩, he, hxs⟩ (a ++ [k'] ++ []) (8 ≤ k'.n)) := by
      have h := fillR_any w3 ⟨hg, hA, hc, some ⟨pb, 0, none⟩, he, hxs⟩ a k' [] (hlk.1.fr hf3 fun _ _ e => e) H16.out.2 H16.out.1
      rw [HK.out.2.1] at h
      exact h
    have HFI := Lib.hid hfill
    have HX3 := Lib.hid (And.intro hx3 (hR2.fr hf3 fun e => e))
    have HLT2 := Lib.hid hlt2
    have HWO := Lib.hid hwo
    have HLK := Lib.hid hlk.2
    have HKF := Lib.hid (And.intro hkf hkf')
    have HF3 := Lib.hid hf3
    have HF02 := Lib.hid hst.fr
    clear hkf hkf' hok hkg' hn1' hn2' hst hk8 hlk hlt2 hwo hR2 hf3 hx3 hfill
    go_wp2_with fail
    rw [← hw3]
    refine HFI.out.mono ?_
    clear HFI hw3
    rintro e w4 ⟨⟨vv, rfl⟩, h', ks', hok4, hfl4, hg4, hn4, hn4', hst4, _⟩
    have hz2 := HF02.out.size
    have HX4 : Hid (Bk w4 w2.heap.size 124 #[.string (bstr xk), .bool xv.has, .slice xv.va xv.vn xv.vc, .int .i64 xv.home, .int .u64 (xv.count : Int)] ∧ Bk w4 w.heap.size 124 #[(Value.string { data := #[] }), .bool false, .slice none 0 0, .int .i64 0, .int .u64 0]) := by
      refine ⟨HX3.out.1.fr hst4.fr fun h => ?_, HX3.out.2.fr hst4.fr fun h => ?_⟩
      · have := HLT2.out _ h; omega
      · rcases HLK.out.new _ h with h | h
        · have := HWO.out _ h; omega
        · have := HZ0.out; omega
    have HP4 := Lib.hid (And.intro hok4 (And.intro hfl4 (And.intro hg4 (And.intro hn4 (And.intro hn4' hst4)))))
    have y0 := HX4.out.1.cell 0
    have y1 := HX4.out.1.cell 1
    have y2 := HX4.out.1.cell 2
    have y3 := HX4.out.1.cell 3
    have y4 := HX4.out.1.cell 4
    have r0 := HX4.out.2.cell 0
    have r1 := HX4.out.2.cell 1
    have r2 := HX4.out.2.cell 2
    have r3 := HX4.out.2.cell 3
    have r4 := HX4.out.2.cell 4
    have s0 := HX4.out.2.free 0
    have s1 := HX4.out.2.free 1
    have s2 := HX4.out.2.free 2
    have s3 := HX4.out.2.free 3
    have s4 := HX4.out.2.free 4
    clear hok4 hfl4 hg4 hn4 hn4' hst4 hz2
    go_wp2_with fail
    have hf5 : Fr (fun i => i = w.heap.size) w4 ((((((w4).setCell ⟨w.heap.size, 0, none⟩ (.string (bstr xk))).setCell ⟨w.heap.size, 1, none⟩ (.bool xv.has)).setCell ⟨w.heap.size, 2, none⟩ (.slice xv.va xv.vn xv.vc)).setCell ⟨w.heap.size, 3, none⟩ (.int .i64 xv.home)).setCell ⟨w.heap.size, 4, none⟩ (.int .u64 (xv.count : Int))) := (((((Fr.refl (fun i => i = w.heap.size) _).setCell (p := ⟨w.heap.size, 0, none⟩) (fun _ => rfl) _).setCell (p := ⟨w.heap.size, 1, none⟩) (fun _ => rfl) _).setCell (p := ⟨w.heap.size, 2, none⟩) (fun _ => rfl) _).setCell (p := ⟨w.heap.size, 3, none⟩) (fun _ => rfl) _).setCell (p := ⟨w.heap.size, 4, none⟩) (fun _ => rfl) _
    have hx5 : Bk ((((((w4).setCell ⟨w.heap.size, 0, none⟩ (.string (bstr xk))).setCell ⟨w.heap.size, 1, none⟩ (.bool xv.has)).setCell ⟨w.heap.size, 2, none⟩ (.slice xv.va xv.vn xv.vc)).setCell ⟨w.heap.size, 3, none⟩ (.int .i64 xv.home)).setCell ⟨w.heap.size, 4, none⟩ (.int .u64 (xv.count : Int))) w.heap.size 124 #[.string (bstr xk), .bool xv.has, .slice xv.va xv.vn xv.vc, .int .i64 xv.home, .int .u64 (xv.count : Int)] := by
      refine Bk.cast (((((HX4.out.2.put 0 (.string (bstr xk))).put 1 (.bool xv.has)).put 2 (.slice xv.va xv.vn xv.vc)).put 3 (.int .i64 xv.home)).put 4 (.int .u64 (xv.count : Int))) ?_
      simp only [List.setIfInBounds_toArray, List.set_cons_zero, List.set_cons_succ]
    obtain ⟨W5, hW5⟩ : ∃ W5, W5 = (((((w4).setCell ⟨w.heap.size, 0, none⟩ (.string (bstr xk))).setCell ⟨w.heap.size, 1, none⟩ (.bool xv.has)).setCell ⟨w.heap.size, 2, none⟩ (.slice xv.va xv.vn xv.vc)).setCell ⟨w.heap.size, 3, none⟩ (.int .i64 xv.home)).setCell ⟨w.heap.size, 4, none⟩ (.int .u64 (xv.count : Int)) := ⟨_, rfl⟩
    rw [← hW5] at hf5 hx5 ⊢
    have v0 : W5.cell? ⟨w.heap.size, 0, none⟩ = some (.string (bstr xk)) := hx5.cell 0
    have v1 : W5.cell? ⟨w.heap.size, 1, none⟩ = some (.bool xv.has) := hx5.cell 1
    have v2 : W5.cell? ⟨w.heap.size, 2, none⟩ = some (.slice xv.va xv.vn xv.vc) := hx5.cell 2
    have v3 : W5.cell? ⟨w.heap.size, 3, none⟩ = some (.int .i64 xv.home) := hx5.cell 3
    have v4 : W5.cell? ⟨w.heap.size, 4, none⟩ = some (.int .u64 (xv.count : Int)) := hx5.cell 4
    refine bodyPost_ret (v := .agg #[.string (bstr xk), .bool xv.has, .slice xv.va xv.vn xv.vc, .int .i64 xv.home, .int .u64 (xv.count : Int)]) (by rw [results_cell1 rfl]; go_simp) rfl ?_
    obtain ⟨hok4, hfl4, hg4, hn4, hn4', hst4⟩ := HP4.out
    have hz0 := HZ0.out
    have hz2 := HF02.out.size
    have hz3 := HF3.out.size
    have hlen : (a ++ [k] ++ []).length = hxs.length + 1 := HO'.out.shape.1
    have hlen' : (a ++ [k'] ++ []).length = hxs.length + 1 := by rw [← hlen]; simp
    have hpo : postW (hxs.drop a.length) (([] : List (Tr ItR d)).map Tr.flat) = [] := by rw [List.drop_eq_nil_of_le (by rw [HK.out.2.1, HK.out.2.2]; exact Nat.le_refl _)]; rfl
    have e1 := Tr.flat_mid (h := ⟨hg, hA, hc, some ⟨pb, 0, none⟩, he, hxs⟩) hlen
    have e2 := Tr.flat_mid (h := ⟨hg, hA, hc, some ⟨pb, 0, none⟩, he, hxs⟩) hlen'
    dsimp only at e1 e2
    simp only [hpo, List.append_nil] at e1 e2
    have hnR : ∀ b, (Tr.node h' ks').own b → b ≠ w.heap.size := fun b hb => by
      rcases hst4.new b hb with h | h
      · rcases HLK.out.new b h with h | h
        · have := HWO.out b h; omega
        · omega
      · omega
    refine ⟨(xk, xv), .node h' ks', preW (a.map Tr.flat) (hxs.take a.length) ++ P, rfl, ?_, ?_, hok4.fr hf5 hnR, hg4, hn4, hn4', ⟨?_, fun b hb => ?_⟩⟩
    · show (Tr.node _ (a ++ [k])).flat = _
      rw [e1, HKF.out.1, ← List.append_assoc]
    · rw [hfl4, List.append_nil (a ++ [k']), e2, HKF.out.2]
    · rw [← List.append_nil (a ++ [k])]
      refine ((((HF0.out.mono fun _ _ h => h.elim).step HLK.out.fr fun b _ h => h).step HF3.out fun _ _ h => h.elim).step hst4.fr fun b hb h => ?_).step hf5 fun b hb h => by omega
      rcases HLK.out.new b h with h | h
      · exact h
      · omega
    · rw [← List.append_nil (a ++ [k])]
      rcases hst4.new b hb with h | h
      · rcases HLK.out.new b h with h | h
        · exact .inl h
        · exact .inr (by omega)
      · exact .inr (by omega)
end Go.Proofs.Ytkdcacajacndmaa
