/- A link's packet, and its answer. Conditions: the link lies in blocks of its own. -/
import Derived.Test.YtchlafhmoncldaaSend
namespace Go.Proofs.Ytchlafhmoncldaa
open Go.RowKit Go.Maps Go.ChangeMaps Go.MapKept Go.WideShapes

/-- the number below another one. -/
def akN (e : Nat) : Nat := if e = 0 then 18446744073709551615 else e - 1
theorem akN_wrap {e : Nat} (h : e < 2 ^ 64) : IntKind.u64.wrap ((e : Int) - 1) = ((akN e : Nat) : Int) := by
  simp only [IntKind.wrap, IntKind.bits, IntKind.signed]
  unfold akN
  by_cases h0 : e = 0
  · subst h0; simp
  · rw [if_neg h0]; simp; omega
def PkPost (W : World) (L : Lk) (seq : Nat) (d : List UInt8) (e : Ending) (W' : World) : Prop :=
  ∃ p : Prt, e = .returned (.agg (pka ⟨L.epoch, L.peer, seq, akN L.expects, p⟩)) ∧ p.2.2 = d ∧ W'.ownsRow W.heap.size 5 1 (sl p) p.2.2.length (cb p.2.2) ∧ Fr NoBlk W W'

set_option maxRecDepth 100000 in
set_option maxHeartbeats 4000000 in
theorem packet_any (W : World) (O : Nat → Prop) (g : Nat) (L : Lk) (h : LkIn O W g L) (seq : Nat) (A : Option Addr) (c : Nat) (d : List UInt8) (hr : Rd W A (cb d)) (hA : A = none → c = 0) (hd : d.length ≤ 1000000) :
    Calls Try.prog 31 #[.pointer (some ⟨g, 0, none⟩), .int .u64 (seq : Int), .slice A d.length c] W (PkPost W L seq d) := by
  obtain ⟨w1, hw1⟩ : ∃ w1, w1 = W.alloc (.cells #[.int .u64 0, .int .u64 0, .int .u64 0, .int .u64 0, .slice none 0 0] 32) := ⟨_, rfl⟩
  obtain ⟨gr, hgr⟩ : ∃ gr, gr = W.heap.size := ⟨_, rfl⟩
  have HF1 : Hid (Fr NoBlk W w1) := by
    show Fr _ _ _
    rw [hw1]
    exact (Fr.refl _ _).alloc _
  have HB1 : Hid (Bk w1 gr 32 #[.int .u64 0, .int .u64 0, .int .u64 0, .int .u64 0, .slice none 0 0]) := by
    show Bk _ _ _ _
    rw [hw1]
    exact Bk.new' _ _ _ hgr
  have HGR : Hid (W.heap.size ≤ gr) := by show _ ≤ _; omega
  have HSK : Hid (∀ w, Fr NoBlk W w → w.cell? ⟨g, 0, none⟩ = some (.int .u64 (L.epoch : Int)) ∧ w.cell? ⟨g, 1, none⟩ = some (.int .u64 (L.peer : Int)) ∧ w.cell? ⟨g, 4, none⟩ = some (.int .u64 (L.expects : Int))) := fun w hf => by
    obtain ⟨a, b, _, _, e, _⟩ := (h.nofr hf).cells
    exact ⟨a, b, e⟩
  have HCL := Lib.hid fun w (hf : Fr NoBlk W w) => clone_any w A d.length c d rfl (hr.nofr hf) hA (by omega)
  have ew := akN_wrap h.nums.2.2.2
  clear h hr hA
  go_enter Try.func31, Try.ntmps31
  go_upto_region 1 with fail
  rw [← hw1, ← hgr]
  clear hw1 hgr
  refine wp_region_held_drew (S := fun w' => Fr NoBlk W w') (by kernel_rfl) (HF1.out.drew) (fun hHeld => ?_)
  refine wpAnyH_take (i := 0) (oi := ⟨some 7, _, _, _, _, _⟩) (v := ?_) rfl (by kernel_rfl) (by kernel_rfl) (by kernel_rfl) (fun _ _ _ h => h) (Or.inl ⟨by rfl, ?_⟩) (by assumption) ?_
  rotate_left 1
  · (intro w hSw; (try dsimp only at hSw); obtain ⟨s0, s1, s4⟩ := HSK.out _ hSw; go_simp) <;> (with_reducible rfl)
  try simp only [Act.put, List.setIfInBounds_toArray, List.set_cons_zero, List.set_cons_succ]
  refine wpAnyH_take (i := 1) (oi := ⟨some 8, _, _, _, _, _⟩) (v := ?_) rfl (by kernel_rfl) (by kernel_rfl) (by kernel_rfl) (fun _ _ _ h => h) (Or.inl ⟨by rfl, ?_⟩) (by assumption) ?_
  rotate_left 1
  · (intro w hSw; (try dsimp only at hSw); obtain ⟨s0, s1, s4⟩ := HSK.out _ hSw; go_simp) <;> (with_reducible rfl)
  try simp only [Act.put, List.setIfInBounds_toArray, List.set_cons_zero, List.set_cons_succ]
  refine wpAnyH_take (i := 2) (oi := ⟨some 9, _, _, _, _, _⟩) (v := ?_) rfl (by kernel_rfl) (by kernel_rfl) (by kernel_rfl) (fun _ _ _ h => h) (Or.inl ⟨by rfl, ?_⟩) (by assumption) ?_
  rotate_left 1
  · (intro w hSw; (try dsimp only at hSw); obtain ⟨s0, s1, s4⟩ := HSK.out _ hSw; go_simp) <;> (with_reducible rfl)
  try simp only [Act.put, List.setIfInBounds_toArray, List.set_cons_zero, List.set_cons_succ]
  refine wpAnyH_take (i := 3) (oi := ⟨some 10, _, _, _, _, _⟩) (v := ?_) rfl (by kernel_rfl) (by kernel_rfl) (by kernel_rfl) (fun _ _ _ h => h) (Or.inl ⟨by rfl, ?_⟩) (by assumption) ?_
  rotate_left 1
  · (intro w hSw; (try dsimp only at hSw); obtain ⟨s0, s1, s4⟩ := HSK.out _ hSw; go_simp) <;> (with_reducible rfl)
  try simp only [Act.put, List.setIfInBounds_toArray, List.set_cons_zero, List.set_cons_succ]
  refine wpAnyH_take (i := 4) (oi := ⟨some 11, _, _, _, _, _⟩) (v := ?_) rfl (by kernel_rfl) (by kernel_rfl) (by kernel_rfl) (fun _ _ _ h => h) (Or.inl ⟨by rfl, ?_⟩) (by assumption) ?_
  rotate_left 1
  · (intro w hSw; (try dsimp only at hSw); obtain ⟨s0, s1, s4⟩ := HSK.out _ hSw; go_simp) <;> (with_reducible rfl)
  try simp only [Act.put, List.setIfInBounds_toArray, List.set_cons_zero, List.set_cons_succ]
  refine wpAnyH_take (i := 5) (oi := ⟨some 12, _, _, _, _, _⟩) (v := ?_) rfl (by kernel_rfl) (by kernel_rfl) (by kernel_rfl) (fun _ _ _ h => h) (Or.inl ⟨by rfl, ?_⟩) (by assumption) ?_
  rotate_left 1
  · (intro w hSw; (try dsimp only at hSw); obtain ⟨s0, s1, s4⟩ := HSK.out _ hSw; go_simp) <;> (with_reducible rfl)
  try simp only [Act.put, List.setIfInBounds_toArray, List.set_cons_zero, List.set_cons_succ]
  refine wpAnyH_take (i := 6) (oi := ⟨some 13, _, _, _, _, _⟩) (v := ?_) rfl (by kernel_rfl) (by kernel_rfl) (by kernel_rfl) (fun _ _ _ h => h) (Or.inl ⟨by rfl, ?_⟩) (by assumption) ?_
  rotate_left 1
  · (intro w hSw; (try dsimp only at hSw); obtain ⟨s0, s1, s4⟩ := HSK.out _ hSw; go_simp) <;> (with_reducible rfl)
  try simp only [Act.put, List.setIfInBounds_toArray, List.set_cons_zero, List.set_cons_succ]
  refine wpAnyH_take (i := 7) (oi := ⟨some 14, _, _, _, _, _⟩) (v := ?_) rfl (by kernel_rfl) (by kernel_rfl) (by kernel_rfl) (fun _ _ _ h => h) (Or.inl ⟨by rfl, ?_⟩) (by assumption) ?_
  rotate_left 1
  · (intro w hSw; (try dsimp only at hSw); obtain ⟨s0, s1, s4⟩ := HSK.out _ hSw; go_simp) <;> (with_reducible rfl)
  try simp only [Act.put, List.setIfInBounds_toArray, List.set_cons_zero, List.set_cons_succ]
  refine wpAnyH_take (i := 8) (oi := ⟨some 15, _, _, _, _, _⟩) (v := ?_) rfl (by kernel_rfl) (by kernel_rfl) (by kernel_rfl) (fun _ _ _ h => h) (Or.inl ⟨by rfl, ?_⟩) (by assumption) ?_
  rotate_left 1
  · (intro w hSw; (try dsimp only at hSw); obtain ⟨s0, s1, s4⟩ := HSK.out _ hSw; go_simp) <;> (with_reducible rfl)
  try simp only [Act.put, List.setIfInBounds_toArray, List.set_cons_zero, List.set_cons_succ]
  refine wpAnyH_take (i := 9) (oi := ⟨some 16, _, _, _, _, _⟩) (v := ?_) rfl (by kernel_rfl) (by kernel_rfl) (by kernel_rfl) (fun _ _ _ h => h) (Or.inl ⟨by rfl, ?_⟩) (by assumption) ?_
  rotate_left 1
  · (intro w hSw; (try dsimp only at hSw); obtain ⟨s0, s1, s4⟩ := HSK.out _ hSw; go_simp) <;> (with_reducible rfl)
  try simp only [Act.put, List.setIfInBounds_toArray, List.set_cons_zero, List.set_cons_succ]
  refine wpAnyH_take (i := 10) (oi := ⟨some 17, _, _, _, _, _⟩) (v := ?_) rfl (by kernel_rfl) (by kernel_rfl) (by kernel_rfl) (fun _ _ _ h => h) (Or.inl ⟨by rfl, ?_⟩) (by assumption) ?_
  rotate_left 1
  · (intro w hSw; (try dsimp only at hSw); obtain ⟨s0, s1, s4⟩ := HSK.out _ hSw; go_simp) <;> (with_reducible rfl)
  try simp only [Act.put, List.setIfInBounds_toArray, List.set_cons_zero, List.set_cons_succ]
  refine wpAnyH_take (i := 11) (oi := ⟨some 18, _, _, _, _, _⟩) (v := ?_) rfl (by kernel_rfl) (by kernel_rfl) (by kernel_rfl) (fun _ _ _ h => h) (Or.inl ⟨by rfl, ?_⟩) (by assumption) ?_
  rotate_left 1
  · (intro w hSw; (try dsimp only at hSw); obtain ⟨s0, s1, s4⟩ := HSK.out _ hSw; go_simp) <;> (with_reducible rfl)
  try simp only [Act.put, List.setIfInBounds_toArray, List.set_cons_zero, List.set_cons_succ]
  refine wpAnyH_take (i := 12) (oi := ⟨some 19, _, _, _, _, _⟩) (v := ?_) rfl (by kernel_rfl) (by kernel_rfl) (by kernel_rfl) (fun _ _ _ h => h) (Or.inl ⟨by rfl, ?_⟩) (by assumption) ?_
  rotate_left 1
  · (intro w hSw; (try dsimp only at hSw); obtain ⟨s0, s1, s4⟩ := HSK.out _ hSw; go_simp) <;> (with_reducible rfl)
  try simp only [Act.put, List.setIfInBounds_toArray, List.set_cons_zero, List.set_cons_succ]
  refine wpAnyH_take (i := 13) (oi := ⟨some 20, _, _, _, _, _⟩) (v := ?_) rfl (by kernel_rfl) (by kernel_rfl) (by kernel_rfl) (fun _ _ _ h => h) (Or.inl ⟨by rfl, ?_⟩) (by assumption) ?_
  rotate_left 1
  · (intro w hSw; (try dsimp only at hSw); obtain ⟨s0, s1, s4⟩ := HSK.out _ hSw; go_simp) <;> (with_reducible rfl)
  try simp only [Act.put, List.setIfInBounds_toArray, List.set_cons_zero, List.set_cons_succ]
  refine wpAnyH_take (i := 14) (oi := ⟨some 21, _, _, _, _, _⟩) (v := ?_) rfl (by kernel_rfl) (by kernel_rfl) (by kernel_rfl) (fun _ _ _ h => h) (Or.inl ⟨by rfl, ?_⟩) (by assumption) ?_
  rotate_left 1
  · (intro w hSw; (try dsimp only at hSw); obtain ⟨s0, s1, s4⟩ := HSK.out _ hSw; go_simp) <;> (with_reducible rfl)
  try simp only [Act.put, List.setIfInBounds_toArray, List.set_cons_zero, List.set_cons_succ]
  refine wpAnyH_ready (rs := [15]) (by kernel_rfl) (by simp) ?_
  refine AllReadyH.cons (o := ⟨some 22, _, _, _, _, _⟩) rfl (fun K hK => ?_) AllReadyH.nil
  go_simp
  go_at_call 25
  refine (HCL.out _ (HF1.out.drew)).mono ?_
  rintro e w2 ⟨v2, rfl, hn2⟩
  obtain ⟨A2, c2, rfl, _, _⟩ := own_form hn2.own
  have HO2 : Hid (w2.ownsRow W.heap.size 5 1 (.slice A2 d.length c2) d.length (cb d)) := own_base hn2.own (HF1.out.drew).size
  have HF2 : Hid (Fr NoBlk W w2) := (HF1.out.drew).trans hn2.fr
  have hb2 : Bk w2 gr 32 #[.int .u64 0, .int .u64 0, .int .u64 0, .int .u64 0, .slice none 0 0] := HB1.out.fr ((Fr.refl NoBlk _).drew.trans hn2.fr) (fun h => h)
  have q0 : w2.cell? ⟨gr, 0, none⟩ = some (.int .u64 0) := hb2.cell 0
  have g0 := hb2.free 0
  have q1 : w2.cell? ⟨gr, 1, none⟩ = some (.int .u64 0) := hb2.cell 1
  have g1 := hb2.free 1
  have q2 : w2.cell? ⟨gr, 2, none⟩ = some (.int .u64 0) := hb2.cell 2
  have g2 := hb2.free 2
  have q3 : w2.cell? ⟨gr, 3, none⟩ = some (.int .u64 0) := hb2.cell 3
  have g3 := hb2.free 3
  have q4 : w2.cell? ⟨gr, 4, none⟩ = some (.slice none 0 0) := hb2.cell 4
  have g4 := hb2.free 4
  obtain ⟨wz, hwz⟩ : ∃ wz, wz = (((((w2.setCell ⟨gr, 0, none⟩ (.int .u64 (L.epoch : Int))).setCell ⟨gr, 1, none⟩ (.int .u64 (L.peer : Int))).setCell ⟨gr, 2, none⟩ (.int .u64 (seq : Int))).setCell ⟨gr, 3, none⟩ (.int .u64 ((akN L.expects : Nat) : Int))).setCell ⟨gr, 4, none⟩ (.slice A2 d.length c2)) := ⟨_, rfl⟩
  have hfz : Fr (fun k => k = gr) w2 wz := by
    rw [hwz]
    exact ((((((Fr.refl (fun k => k = gr) w2).setCell (p := ⟨gr, 0, none⟩) (fun _ => rfl) _).setCell (p := ⟨gr, 1, none⟩) (fun _ => rfl) _).setCell (p := ⟨gr, 2, none⟩) (fun _ => rfl) _).setCell (p := ⟨gr, 3, none⟩) (fun _ => rfl) _).setCell (p := ⟨gr, 4, none⟩) (fun _ => rfl) _)
  have HBZ : Hid (Bk wz gr 32 #[.int .u64 (L.epoch : Int), .int .u64 (L.peer : Int), .int .u64 (seq : Int), .int .u64 ((akN L.expects : Nat) : Int), .slice A2 d.length c2]) := by
    show Bk _ _ _ _
    rw [hwz]
    refine Bk.cast (((((hb2.put 0 (.int .u64 (L.epoch : Int))).put 1 (.int .u64 (L.peer : Int))).put 2 (.int .u64 (seq : Int))).put 3 (.int .u64 ((akN L.expects : Nat) : Int))).put 4 (.slice A2 d.length c2)) ?_
    simp only [List.setIfInBounds_toArray, List.set_cons_zero, List.set_cons_succ]
  have HFZ : Hid (Fr NoBlk W wz) := HF2.out.step hfz (fun k hk e => by have := HGR.out; omega)
  have HOZ : Hid (wz.ownsRow W.heap.size 5 1 (.slice A2 d.length c2) d.length (cb d)) := own_fr HO2.out hfz (fun k hk e => own_apart HO2.out hb2 (by decide) (e ▸ hk))
  have HWZ := Lib.hid hwz
  clear hn2 hb2 hwz hfz
  clear hHeld
  refine hK.out _ _ ?_ (fun hHeld => ?_)
  · exact HF2.out
  clear hK K
  try simp only [Act.put, List.setIfInBounds_toArray, List.set_cons_zero, List.set_cons_succ]
  refine wpAnyH_take (i := 16) (oi := ⟨some 23, _, _, _, _, _⟩) (v := ?_) rfl (by kernel_rfl) (by kernel_rfl) (by kernel_rfl) (fun _ _ _ h => h) (Or.inl ⟨by rfl, ?_⟩) (by assumption) ?_
  rotate_left 1
  · (intro w hSw; (try dsimp only at hSw); obtain ⟨s0, s1, s4⟩ := HSK.out _ hSw; go_simp) <;> (with_reducible rfl)
  try simp only [Act.put, List.setIfInBounds_toArray, List.set_cons_zero, List.set_cons_succ]
  refine wpAnyH_ready (rs := [17]) (by kernel_rfl) (by simp) ?_
  refine AllReadyH.cons (o := ⟨none, _, _, _, _, _⟩) rfl (fun K hK => ?_) AllReadyH.nil
  go_simp
  rw [← HWZ.out]
  clear hHeld
  refine hK.out _ _ ?_ (fun hHeld => ?_)
  · exact HFZ.out
  clear hK K
  try simp only [Act.put, List.setIfInBounds_toArray, List.set_cons_zero, List.set_cons_succ]
  refine wpAnyH_done (by kernel_rfl) ?_ _
  clear HWZ hHeld q0 q1 q2 q3 q4 g0 g1 g2 g3 g4
  go_wp2_with fail
  have z0 : wz.cell? ⟨gr, 0, none⟩ = some (.int .u64 (L.epoch : Int)) := HBZ.out.cell 0
  have z1 : wz.cell? ⟨gr, 1, none⟩ = some (.int .u64 (L.peer : Int)) := HBZ.out.cell 1
  have z2 : wz.cell? ⟨gr, 2, none⟩ = some (.int .u64 (seq : Int)) := HBZ.out.cell 2
  have z3 : wz.cell? ⟨gr, 3, none⟩ = some (.int .u64 ((akN L.expects : Nat) : Int)) := HBZ.out.cell 3
  have z4 : wz.cell? ⟨gr, 4, none⟩ = some (.slice A2 d.length c2) := HBZ.out.cell 4
  refine bodyPost_ret (v := .agg (pka ⟨L.epoch, L.peer, seq, akN L.expects, (A2, c2, d)⟩)) ?_ rfl ⟨(A2, c2, d), rfl, rfl, HOZ.out, HFZ.out⟩
  unfold pka
  simp [results, Try.results31, go_sem, z0, z1, z2, z3, z4]

/-- a row of one packet, or none, in new memory. -/
structure PksIn (W W' : World) (A : Option Addr) (c : Nat) (xs : List Pk) : Prop where
  own : W'.ownsRow W.heap.size 32 5 (.slice A xs.length c) xs.length (pksc xs)
  data : ∀ x ∈ xs, W'.ownsRow W.heap.size 5 1 (sl x.d) x.d.2.2.length (cb x.d.2.2)
def AnsPost (W : World) (L : Lk) (e : Ending) (W' : World) : Prop :=
  ∃ (A : Option Addr) (c : Nat) (x : Pk), e = .returned (.slice A 1 c) ∧ PksIn W W' A c [x] ∧ x.ep = L.epoch ∧ x.pe = L.peer ∧ x.sq = 0 ∧ x.ak = akN L.expects ∧ x.d.2.2 = [] ∧ Fr NoBlk W W'
theorem PksIn.one {W w2 : World} {x : Pk} (ho : w2.ownsRow W.heap.size 5 1 (sl x.d) x.d.2.2.length (cb x.d.2.2)) (hs : W.heap.size ≤ w2.heap.size) : PksIn W (w2.alloc (.cells (pka x) 32)) (some ⟨w2.heap.size, 0, none⟩) 1 [x] := by
  refine ⟨⟨rfl, .inr ⟨w2.heap.size, 1, pka x, rfl, hs, heap_alloc_new w2 _, Nat.le_refl _, by decide, rfl, rfl⟩⟩, fun y hy => ?_⟩
  rw [List.mem_singleton.1 hy]
  exact own_fr ho ((Fr.refl NoBlk w2).alloc _) (fun _ _ h => h)
set_option maxRecDepth 100000 in
theorem answer_any (W : World) (O : Nat → Prop) (g : Nat) (L : Lk) (h : LkIn O W g L) :
    Calls Try.prog 27 #[.pointer (some ⟨g, 0, none⟩)] W (AnsPost W L) := by
  have HK := Lib.hid (packet_any W O g L h 0 none 0 [] (Rd.none_ _ _) (fun _ => rfl) (by simp))
  have HP : Hid (∀ e W', AnsPost W L e W' = ∃ (A : Option Addr) (c : Nat) (x : Pk), e = .returned (.slice A 1 c) ∧ PksIn W W' A c [x] ∧ x.ep = L.epoch ∧ x.pe = L.peer ∧ x.sq = 0 ∧ x.ak = akN L.expects ∧ x.d.2.2 = [] ∧ Fr NoBlk W W') := fun _ _ => rfl
  clear h
  go_enter Try.func27, Try.ntmps27
  go_wp2_with fail
  refine HK.out.mono ?_
  rintro e w2 ⟨p, rfl, hp, ho, hf⟩
  have HX := Lib.hid (PksIn.one (x := ⟨L.epoch, L.peer, 0, akN L.expects, p⟩) ho hf.size)
  have HF := Lib.hid (hf.alloc (.cells (pka ⟨L.epoch, L.peer, 0, akN L.expects, p⟩) 32))
  have HD := Lib.hid hp
  unfold pka at HX HF ⊢
  clear hp ho hf HK
  go_wp2_with fail
  go_ret
  rw [HP.out]
  exact ⟨_, _, _, rfl, HX.out, rfl, rfl, rfl, rfl, HD.out, HF.out⟩
end Go.Proofs.Ytchlafhmoncldaa
