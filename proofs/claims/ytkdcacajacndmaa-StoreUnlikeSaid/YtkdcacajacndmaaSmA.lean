/- Records and rows that are one: SameRecord, Same. Conditions: at most 100000 rows. spoil: it turns nothing but what was handed to it. Conditions: at most 100000 rows. -/
import Derived.Test.YtkdcacajacndmaaGa
import Derived.Test.YtkdcacajacndmaaLstP
import Derived.Deep.RegionHeld3
namespace Go.Proofs.Ytkdcacajacndmaa
open Go.RowKit
theorem strBs (w : World) (A : Option Addr) (n c : Nat) (l : List UInt8) (hn : n = l.length) (hr : Rd w A (cb l)) :
    (convert 31 9 (.slice A n c)).run Try.prog w = .ok (.string (bstr l)) w :=
  run_str w _ _ 5 Try.underlying31 Try.underlying5 Try.underlying9 A c l n hn hr
/-- rows in memory that are those told. -/
def Told [Ex] (w : World) (ys : List ItR) (rs : List Rw) : Prop := ys.length = rs.length ∧ ∀ (j : Nat) (y : ItR) (r : Rw), ys[j]? = some y → rs[j]? = some r → y.1 = r.1 ∧ Reads w y.2 r.2
theorem Told.fr [Ex] {w w' : World} {C : Nat → Prop} {ys : List ItR} {rs : List Rw} (h : Told w ys rs) (hf : Fr C w w') (hn : ∀ k, Byt w k → ¬ C k) : Told w' ys rs := ⟨h.1, fun j y r hy hr => ⟨(h.2 j y r hy hr).1, (h.2 j y r hy hr).2.fr hf hn⟩⟩
theorem Told.nofr [Ex] {w w' : World} {ys : List ItR} {rs : List Rw} (h : Told w ys rs) (hf : Fr NoBlk w w') : Told w' ys rs := h.fr hf fun _ _ e => e
theorem RowsOf.told [Ex] {w : World} {N : Nat} {ys : List ItR} {rs : List Rw} (h : RowsOf w N ys rs) (hx : ExL N) : Told w ys rs := ⟨h.1, fun j y r hy hr => ⟨(h.2 j y r hy hr).1, (h.2 j y r hy hr).2.reads hx⟩⟩
theorem told_zs [Ex] {w : World} {zs : List Zr} (h : ∀ z ∈ zs, Reads w z.2.1 z.2.2) : Told w (vz zs) (rz zs) := by
  refine ⟨by rw [vz_len, rz_len], fun j y r hy hr => ?_⟩
  unfold vz at hy
  unfold rz at hr
  rw [List.getElem?_map] at hy hr
  obtain ⟨z, hz, rfl⟩ := Option.map_eq_some_iff.1 hy
  rw [hz] at hr
  injection hr with hr
  subst hr
  exact ⟨rfl, h z (List.mem_of_getElem? hz)⟩
set_option maxRecDepth 100000 in
set_option maxHeartbeats 1000000 in
theorem samerec_yes [Ex] (w : World) (u v : VaR) (r : Rec) (hu : Reads w u r) (hv : Reads w v r) :
    Calls Try.prog 15 #[vaR u, vaR v] w fun e w' => e = .returned (.bool true) ∧ Fr NoBlk w w' := by
  obtain ⟨uh, ua, un, uc, um, ut⟩ := u
  obtain ⟨vh, va, vn, vc, vm, vt⟩ := v
  obtain ⟨rh, rv, rm, rt⟩ := r
  obtain rfl : uh = rh := hu.has
  obtain rfl : vh = uh := hv.has
  obtain rfl : um = rm := hu.home
  obtain rfl : vm = um := hv.home
  obtain rfl : ut = rt := hu.count
  obtain rfl : vt = ut := hv.count
  obtain ⟨p, hp⟩ : ∃ p, p = w.heap.size := ⟨_, rfl⟩
  obtain ⟨w1, hw1⟩ : ∃ W, W = (w.alloc (.cells #[.bool vh, .slice ua un uc, .int .i64 vm, .int .u64 (vt : Int)] 38)).alloc (.cells #[.bool vh, .slice va vn vc, .int .i64 vm, .int .u64 (vt : Int)] 38) := ⟨_, rfl⟩
  have hf1 : Fr NoBlk w w1 := by rw [hw1]; exact ((Fr.refl _ _).alloc _).alloc _
  have HP1 : Hid (Bk w1 p 38 #[.bool vh, .slice ua un uc, .int .i64 vm, .int .u64 (vt : Int)]) := by show Bk _ _ _ _; rw [hw1, hp]; exact (Bk.new _ _ _).alloc _
  have HQ1 : Hid (Bk w1 (p + 1) 38 #[.bool vh, .slice va vn vc, .int .i64 vm, .int .u64 (vt : Int)]) := by show Bk _ _ _ _; rw [hw1, hp]; have h := Bk.new (w.alloc (.cells #[.bool vh, .slice ua un uc, .int .i64 vm, .int .u64 (vt : Int)] 38)) 38 #[.bool vh, .slice va vn vc, .int .i64 vm, .int .u64 (vt : Int)]; rw [World.size_alloc] at h; exact h
  have q1 := strBs w1 ua un uc rv hu.len (hu.rd.nofr hf1)
  have q2 := strBs w1 va vn vc rv hv.len (hv.rd.nofr hf1)
  have HF1 := Lib.hid hf1
  have HW1 := Lib.hid hw1
  have HP := Lib.hid hp
  have hqq : ((bstr rv).toList == (bstr rv).toList) = true := eq_bstr rfl
  clear hu hv hf1 hw1 hp
  unfold vaR
  go_enter Try.func15, Try.ntmps15
  go_upto_region 1 with fail
  rw [← HW1.out, ← HP.out]
  clear HW1 HP
  have a0 : w1.cell? ⟨p, 0, none⟩ = some (.bool vh) := HP1.out.cell 0
  have a1 : w1.cell? ⟨p, 1, none⟩ = some (.slice ua un uc) := HP1.out.cell 1
  have a2 : w1.cell? ⟨p, 2, none⟩ = some (.int .i64 vm) := HP1.out.cell 2
  have a3 : w1.cell? ⟨p, 3, none⟩ = some (.int .u64 (vt : Int)) := HP1.out.cell 3
  have b0 : w1.cell? ⟨p + 1, 0, none⟩ = some (.bool vh) := HQ1.out.cell 0
  have b1 : w1.cell? ⟨p + 1, 1, none⟩ = some (.slice va vn vc) := HQ1.out.cell 1
  have b2 : w1.cell? ⟨p + 1, 2, none⟩ = some (.int .i64 vm) := HQ1.out.cell 2
  have b3 : w1.cell? ⟨p + 1, 3, none⟩ = some (.int .u64 (vt : Int)) := HQ1.out.cell 3
  cases vh <;>
  · go_wp2_with fail
    go_ret
    exact ⟨rfl, HF1.out⟩
set_option maxRecDepth 100000 in
set_option maxHeartbeats 1000000 in
theorem same_yes [Ex] (w : World) (A : Option Addr) (c : Nat) (ys : List ItR) (B : Option Addr) (d : Nat) (us : List ItR) (rs : List Rw) (hA : Rd w A (itsR ys)) (hB : Rd w B (itsR us)) (hy : Told w ys rs) (hu : Told w us rs) (hl : rs.length ≤ 100000) :
    Calls Try.prog 19 #[.slice A ys.length c, .slice B us.length d] w fun e w' => e = .returned (.bool true) ∧ Fr NoBlk w w' := by
  obtain ⟨N, hN⟩ : ∃ N, N = rs.length := ⟨_, rfl⟩
  have HN := Lib.hid hN
  rw [hy.1, hu.1, ← hN]
  have hnn : N ≤ 100000 := by rw [hN]; exact hl
  have H := Lib.hid (And.intro hA (And.intro hB (And.intro hy hu)))
  clear hA hB hy hu hl hN
  go_enter Try.func19, Try.ntmps19
  go_wp2_with fail
  go_loopw [5] (fun z wr => ∃ k : Nat, z = .int .i64 (k : Int) ∧ k ≤ N ∧ Hid (Fr NoBlk w wr)) (fun z _ => N - (intOf z).toNat)
  case atStart => exact ⟨0, rfl, Nat.zero_le _, Fr.refl _ _⟩
  case round =>
    obtain ⟨k, rfl, hk, HF⟩ := hrel
    have hw2 : IntKind.i64.wrap ((k : Int) + 1) = ((k + 1 : Nat) : Int) := by rw [IntWalk.i64_in _ (by omega)]; omega
    by_cases hlt : k < N
    · obtain ⟨y, hy⟩ : ∃ y, ys[k]? = some y := ⟨_, List.getElem?_eq_getElem (by have := H.out.2.2.1.1; have := HN.out; omega)⟩
      obtain ⟨u, hu⟩ : ∃ u, us[k]? = some u := ⟨_, List.getElem?_eq_getElem (by have := H.out.2.2.2.1; have := HN.out; omega)⟩
      obtain ⟨r, hr⟩ : ∃ r, rs[k]? = some r := ⟨_, List.getElem?_eq_getElem (by have := HN.out; omega)⟩
      obtain ⟨b, o, hAb, d0, d1, d2, d3, d4⟩ := (H.out.1.nofr HF.out).itR hy
      obtain ⟨b2, o2, hBb, g0, g1, g2, g3, g4⟩ := (H.out.2.1.nofr HF.out).itR hu
      subst hAb hBb
      have h1 := H.out.2.2.1.2 k y r hy hr
      have h2 := H.out.2.2.2.2 k u r hu hr
      obtain ⟨yk, yv⟩ := y
      obtain ⟨uk, uv⟩ := u
      obtain ⟨rk, rr⟩ := r
      obtain rfl : yk = rk := h1.1
      obtain rfl : uk = yk := h2.1
      dsimp only at d0 d1 d2 d3 d4 g0 g1 g2 g3 g4
      have HSR : Hid (∀ V, Fr NoBlk wr V → Calls Try.prog 15 #[.agg #[.bool yv.has, .slice yv.va yv.vn yv.vc, .int .i64 yv.home, .int .u64 (yv.count : Int)], .agg #[.bool uv.has, .slice uv.va uv.vn uv.vc, .int .i64 uv.home, .int .u64 (uv.count : Int)]] V fun e V' => e = .returned (.bool true) ∧ Fr NoBlk V V') := fun V hV => samerec_yes V yv uv rr (h1.2.nofr (HF.out.trans hV)) (h2.2.nofr (HF.out.trans hV))
      have hbl : b < wr.heap.size := by
        unfold World.cell? at d0
        split at d0
        · rename_i h9
          exact (Array.getElem?_eq_some_iff.1 (by assumption)).1
        · cases d0
      have hbl2 : b2 < wr.heap.size := by
        unfold World.cell? at g0
        split at g0
        · rename_i h9
          exact (Array.getElem?_eq_some_iff.1 (by assumption)).1
        · cases g0
      have HSK : Hid (∀ w', Fr NoBlk wr w' → w'.cell? ⟨b, o + k * 5, none⟩ = some (.string (bstr uk)) ∧ w'.cell? ⟨b, o + k * 5 + 1, none⟩ = some (.bool yv.has) ∧ w'.cell? ⟨b, o + k * 5 + 2, none⟩ = some (.slice yv.va yv.vn yv.vc) ∧ w'.cell? ⟨b, o + k * 5 + 3, none⟩ = some (.int .i64 yv.home) ∧ w'.cell? ⟨b, o + k * 5 + 4, none⟩ = some (.int .u64 (yv.count : Int)) ∧
          w'.cell? ⟨b2, o2 + k * 5, none⟩ = some (.string (bstr uk)) ∧ w'.cell? ⟨b2, o2 + k * 5 + 1, none⟩ = some (.bool uv.has) ∧ w'.cell? ⟨b2, o2 + k * 5 + 2, none⟩ = some (.slice uv.va uv.vn uv.vc) ∧ w'.cell? ⟨b2, o2 + k * 5 + 3, none⟩ = some (.int .i64 uv.home) ∧ w'.cell? ⟨b2, o2 + k * 5 + 4, none⟩ = some (.int .u64 (uv.count : Int))) := fun w' hw =>
        have hc : ∀ j, w'.cell? ⟨b, j, none⟩ = wr.cell? ⟨b, j, none⟩ := fun j => hw.cell (p := ⟨b, j, none⟩) hbl fun e => e
        have hc2 : ∀ j, w'.cell? ⟨b2, j, none⟩ = wr.cell? ⟨b2, j, none⟩ := fun j => hw.cell (p := ⟨b2, j, none⟩) hbl2 fun e => e
        ⟨(hc _).trans d0, (hc _).trans d1, (hc _).trans d2, (hc _).trans d3, (hc _).trans d4, (hc2 _).trans g0, (hc2 _).trans g1, (hc2 _).trans g2, (hc2 _).trans g3, (hc2 _).trans g4⟩
      have hqq : ((bstr uk).toList == (bstr uk).toList) = true := eq_bstr rfl
      clear hy hu hr h1 h2 d0 d1 d2 d3 d4 g0 g1 g2 g3 g4 hbl hbl2
      go_wp2_with fail
      refine wp_region_held_drew (S := fun w' => Fr NoBlk wr w') (by kernel_rfl) ((Fr.refl _ _).drew) (fun hHeld => ?_)
      refine wpAnyH_take (i := 0) (oi := ⟨some 17, _, _, _, _, _⟩) (v := ?_) rfl (by kernel_rfl) (by kernel_rfl) (by kernel_rfl) (fun _ _ _ h => h) (Or.inl ⟨by rfl, ?_⟩) (by assumption) ?_
      rotate_left 1
      · (intro w hSw; (try dsimp only at hSw); obtain ⟨k0, k1, k2, k3, k4, j0, j1, j2, j3, j4⟩ := HSK.out _ hSw; go_simp) <;> (with_reducible rfl)
      try simp only [Act.put, List.setIfInBounds_toArray, List.set_cons_zero, List.set_cons_succ]
      refine wpAnyH_take (i := 1) (oi := ⟨some 18, _, _, _, _, _⟩) (v := ?_) rfl (by kernel_rfl) (by kernel_rfl) (by kernel_rfl) (fun _ _ _ h => h) (Or.inl ⟨by rfl, ?_⟩) (by assumption) ?_
      rotate_left 1
      · (intro w hSw; (try dsimp only at hSw); obtain ⟨k0, k1, k2, k3, k4, j0, j1, j2, j3, j4⟩ := HSK.out _ hSw; go_simp) <;> (with_reducible rfl)
      try simp only [Act.put, List.setIfInBounds_toArray, List.set_cons_zero, List.set_cons_succ]
      refine wpAnyH_take (i := 2) (oi := ⟨some 19, _, _, _, _, _⟩) (v := ?_) rfl (by kernel_rfl) (by kernel_rfl) (by kernel_rfl) (fun _ _ _ h => h) (Or.inl ⟨by rfl, ?_⟩) (by assumption) ?_
      rotate_left 1
      · (intro w hSw; (try dsimp only at hSw); obtain ⟨k0, k1, k2, k3, k4, j0, j1, j2, j3, j4⟩ := HSK.out _ hSw; go_simp) <;> (with_reducible rfl)
      try simp only [Act.put, List.setIfInBounds_toArray, List.set_cons_zero, List.set_cons_succ]
      refine wpAnyH_take (i := 3) (oi := ⟨some 20, _, _, _, _, _⟩) (v := ?_) rfl (by kernel_rfl) (by kernel_rfl) (by kernel_rfl) (fun _ _ _ h => h) (Or.inl ⟨by rfl, ?_⟩) (by assumption) ?_
      rotate_left 1
      · (intro w hSw; (try dsimp only at hSw); obtain ⟨k0, k1, k2, k3, k4, j0, j1, j2, j3, j4⟩ := HSK.out _ hSw; go_simp) <;> (with_reducible rfl)
      try simp only [Act.put, List.setIfInBounds_toArray, List.set_cons_zero, List.set_cons_succ]
      refine wpAnyH_take (i := 4) (oi := ⟨some 21, _, _, _, _, _⟩) (v := ?_) rfl (by kernel_rfl) (by kernel_rfl) (by kernel_rfl) (fun _ _ _ h => h) (Or.inl ⟨by rfl, ?_⟩) (by assumption) ?_
      rotate_left 1
      · (intro w hSw; (try dsimp only at hSw); obtain ⟨k0, k1, k2, k3, k4, j0, j1, j2, j3, j4⟩ := HSK.out _ hSw; go_simp) <;> (with_reducible rfl)
      try simp only [Act.put, List.setIfInBounds_toArray, List.set_cons_zero, List.set_cons_succ]
      refine wpAnyH_take (i := 5) (oi := ⟨some 22, _, _, _, _, _⟩) (v := ?_) rfl (by kernel_rfl) (by kernel_rfl) (by kernel_rfl) (fun _ _ _ h => h) (Or.inl ⟨by rfl, ?_⟩) (by assumption) ?_
      rotate_left 1
      · (intro w hSw; (try dsimp only at hSw); obtain ⟨k0, k1, k2, k3, k4, j0, j1, j2, j3, j4⟩ := HSK.out _ hSw; go_simp) <;> (with_reducible rfl)
      try simp only [Act.put, List.setIfInBounds_toArray, List.set_cons_zero, List.set_cons_succ]
      refine wpAnyH_take (i := 6) (oi := ⟨some 23, _, _, _, _, _⟩) (v := ?_) rfl (by kernel_rfl) (by kernel_rfl) (by kernel_rfl) (fun _ _ _ h => h) (Or.inl ⟨by rfl, ?_⟩) (by assumption) ?_
      rotate_left 1
      · (intro w hSw; (try dsimp only at hSw); obtain ⟨k0, k1, k2, k3, k4, j0, j1, j2, j3, j4⟩ := HSK.out _ hSw; go_simp) <;> (with_reducible rfl)
      try simp only [Act.put, List.setIfInBounds_toArray, List.set_cons_zero, List.set_cons_succ]
      refine wpAnyH_take (i := 7) (oi := ⟨some 24, _, _, _, _, _⟩) (v := ?_) rfl (by kernel_rfl) (by kernel_rfl) (by kernel_rfl) (fun _ _ _ h => h) (Or.inl ⟨by rfl, ?_⟩) (by assumption) ?_
      rotate_left 1
      · (intro w hSw; (try dsimp only at hSw); obtain ⟨k0, k1, k2, k3, k4, j0, j1, j2, j3, j4⟩ := HSK.out _ hSw; go_simp) <;> (with_reducible rfl)
      try simp only [Act.put, List.setIfInBounds_toArray, List.set_cons_zero, List.set_cons_succ]
      refine wpAnyH_take (i := 8) (oi := ⟨some 25, _, _, _, _, _⟩) (v := ?_) rfl (by kernel_rfl) (by kernel_rfl) (by kernel_rfl) (fun _ _ _ h => h) (Or.inl ⟨by rfl, ?_⟩) (by assumption) ?_
      rotate_left 1
      · (intro w hSw; (try dsimp only at hSw); obtain ⟨k0, k1, k2, k3, k4, j0, j1, j2, j3, j4⟩ := HSK.out _ hSw; go_simp) <;> (with_reducible rfl)
      try simp only [Act.put, List.setIfInBounds_toArray, List.set_cons_zero, List.set_cons_succ]
      refine wpAnyH_take (i := 9) (oi := ⟨some 26, _, _, _, _, _⟩) (v := ?_) rfl (by kernel_rfl) (by kernel_rfl) (by kernel_rfl) (fun _ _ _ h => h) (Or.inl ⟨by rfl, ?_⟩) (by assumption) ?_
      rotate_left 1
      · (intro w hSw; (try dsimp only at hSw); obtain ⟨k0, k1, k2, k3, k4, j0, j1, j2, j3, j4⟩ := HSK.out _ hSw; go_simp) <;> (with_reducible rfl)
      try simp only [Act.put, List.setIfInBounds_toArray, List.set_cons_zero, List.set_cons_succ]
      refine wpAnyH_take (i := 10) (oi := ⟨some 27, _, _, _, _, _⟩) (v := ?_) rfl (by kernel_rfl) (by kernel_rfl) (by kernel_rfl) (fun _ _ _ h => h) (Or.inl ⟨by rfl, ?_⟩) (by assumption) ?_
      rotate_left 1
      · (intro w hSw; (try dsimp only at hSw); obtain ⟨k0, k1, k2, k3, k4, j0, j1, j2, j3, j4⟩ := HSK.out _ hSw; go_simp) <;> (with_reducible rfl)
      try simp only [Act.put, List.setIfInBounds_toArray, List.set_cons_zero, List.set_cons_succ]
      refine wpAnyH_take (i := 11) (oi := ⟨some 28, _, _, _, _, _⟩) (v := ?_) rfl (by kernel_rfl) (by kernel_rfl) (by kernel_rfl) (fun _ _ _ h => h) (Or.inl ⟨by rfl, ?_⟩) (by assumption) ?_
      rotate_left 1
      · (intro w hSw; (try dsimp only at hSw); obtain ⟨k0, k1, k2, k3, k4, j0, j1, j2, j3, j4⟩ := HSK.out _ hSw; go_simp) <;> (with_reducible rfl)
      try simp only [Act.put, List.setIfInBounds_toArray, List.set_cons_zero, List.set_cons_succ]
      refine wpAnyH_take (i := 12) (oi := ⟨some 29, _, _, _, _, _⟩) (v := ?_) rfl (by kernel_rfl) (by kernel_rfl) (by kernel_rfl) (fun _ _ _ h => h) (Or.inl ⟨by rfl, ?_⟩) (by assumption) ?_
      rotate_left 1
      · (intro w hSw; (try dsimp only at hSw); obtain ⟨k0, k1, k2, k3, k4, j0, j1, j2, j3, j4⟩ := HSK.out _ hSw; go_simp) <;> (with_reducible rfl)
      try simp only [Act.put, List.setIfInBounds_toArray, List.set_cons_zero, List.set_cons_succ]
      refine wpAnyH_take (i := 13) (oi := ⟨some 30, _, _, _, _, _⟩) (v := ?_) rfl (by kernel_rfl) (by kernel_rfl) (by kernel_rfl) (fun _ _ _ h => h) (Or.inl ⟨by rfl, ?_⟩) (by assumption) ?_
      rotate_left 1
      · (intro w hSw; (try dsimp only at hSw); obtain ⟨k0, k1, k2, k3, k4, j0, j1, j2, j3, j4⟩ := HSK.out _ hSw; go_simp) <;> (with_reducible rfl)
      try simp only [Act.put, List.setIfInBounds_toArray, List.set_cons_zero, List.set_cons_succ]
      refine wpAnyH_take (i := 14) (oi := ⟨some 31, _, _, _, _, _⟩) (v := ?_) rfl (by kernel_rfl) (by kernel_rfl) (by kernel_rfl) (fun _ _ _ h => h) (Or.inl ⟨by rfl, ?_⟩) (by assumption) ?_
      rotate_left 1
      · (intro w hSw; (try dsimp only at hSw); obtain ⟨k0, k1, k2, k3, k4, j0, j1, j2, j3, j4⟩ := HSK.out _ hSw; go_simp) <;> (with_reducible rfl)
      try simp only [Act.put, List.setIfInBounds_toArray, List.set_cons_zero, List.set_cons_succ]
      refine wpAnyH_take (i := 15) (oi := ⟨some 32, _, _, _, _, _⟩) (v := ?_) rfl (by kernel_rfl) (by kernel_rfl) (by kernel_rfl) (fun _ _ _ h => h) (Or.inl ⟨by rfl, ?_⟩) (by assumption) ?_
      rotate_left 1
      · (intro w hSw; (try dsimp only at hSw); obtain ⟨k0, k1, k2, k3, k4, j0, j1, j2, j3, j4⟩ := HSK.out _ hSw; go_simp) <;> (with_reducible rfl)
      try simp only [Act.put, List.setIfInBounds_toArray, List.set_cons_zero, List.set_cons_succ]
      refine wpAnyH_take (i := 16) (oi := ⟨some 33, _, _, _, _, _⟩) (v := ?_) rfl (by kernel_rfl) (by kernel_rfl) (by kernel_rfl) (fun _ _ _ h => h) (Or.inl ⟨by rfl, ?_⟩) (by assumption) ?_
      rotate_left 1
      · (intro w hSw; (try dsimp only at hSw); obtain ⟨k0, k1, k2, k3, k4, j0, j1, j2, j3, j4⟩ := HSK.out _ hSw; go_simp) <;> (with_reducible rfl)
      try simp only [Act.put, List.setIfInBounds_toArray, List.set_cons_zero, List.set_cons_succ]
      refine wpAnyH_take (i := 17) (oi := ⟨some 34, _, _, _, _, _⟩) (v := ?_) rfl (by kernel_rfl) (by kernel_rfl) (by kernel_rfl) (fun _ _ _ h => h) (Or.inl ⟨by rfl, ?_⟩) (by assumption) ?_
      rotate_left 1
      · (intro w hSw; (try dsimp only at hSw); obtain ⟨k0, k1, k2, k3, k4, j0, j1, j2, j3, j4⟩ := HSK.out _ hSw; go_simp) <;> (with_reducible rfl)
      try simp only [Act.put, List.setIfInBounds_toArray, List.set_cons_zero, List.set_cons_succ]
      refine wpAnyH_take (i := 18) (oi := ⟨some 35, _, _, _, _, _⟩) (v := ?_) rfl (by kernel_rfl) (by kernel_rfl) (by kernel_rfl) (fun _ _ _ h => h) (Or.inl ⟨by rfl, ?_⟩) (by assumption) ?_
      rotate_left 1
      · (intro w hSw; (try dsimp only at hSw); obtain ⟨k0, k1, k2, k3, k4, j0, j1, j2, j3, j4⟩ := HSK.out _ hSw; go_simp) <;> (with_reducible rfl)
      try simp only [Act.put, List.setIfInBounds_toArray, List.set_cons_zero, List.set_cons_succ]
      refine wpAnyH_take (i := 19) (oi := ⟨some 36, _, _, _, _, _⟩) (v := ?_) rfl (by kernel_rfl) (by kernel_rfl) (by kernel_rfl) (fun _ _ _ h => h) (Or.inl ⟨by rfl, ?_⟩) (by assumption) ?_
      rotate_left 1
      · (intro w hSw; (try dsimp only at hSw); obtain ⟨k0, k1, k2, k3, k4, j0, j1, j2, j3, j4⟩ := HSK.out _ hSw; go_simp) <;> (with_reducible rfl)
      try simp only [Act.put, List.setIfInBounds_toArray, List.set_cons_zero, List.set_cons_succ]
      refine wpAnyH_take (i := 20) (oi := ⟨some 37, _, _, _, _, _⟩) (v := ?_) rfl (by kernel_rfl) (by kernel_rfl) (by kernel_rfl) (fun _ _ _ h => h) (Or.inl ⟨by rfl, ?_⟩) (by assumption) ?_
      rotate_left 1
      · (intro w hSw; (try dsimp only at hSw); obtain ⟨k0, k1, k2, k3, k4, j0, j1, j2, j3, j4⟩ := HSK.out _ hSw; go_simp) <;> (with_reducible rfl)
      try simp only [Act.put, List.setIfInBounds_toArray, List.set_cons_zero, List.set_cons_succ]
      refine wpAnyH_take (i := 21) (oi := ⟨some 38, _, _, _, _, _⟩) (v := ?_) rfl (by kernel_rfl) (by kernel_rfl) (by kernel_rfl) (fun _ _ _ h => h) (Or.inl ⟨by rfl, ?_⟩) (by assumption) ?_
      rotate_left 1
      · (intro w hSw; (try dsimp only at hSw); obtain ⟨k0, k1, k2, k3, k4, j0, j1, j2, j3, j4⟩ := HSK.out _ hSw; go_simp) <;> (with_reducible rfl)
      try simp only [Act.put, List.setIfInBounds_toArray, List.set_cons_zero, List.set_cons_succ]
      refine wpAnyH_ready (rs := [22]) (by kernel_rfl) (by simp) ?_
      refine AllReadyH.cons (o := ⟨some 39, _, _, _, _, _⟩) rfl (fun K hK => ?_) AllReadyH.nil
      go_simp
      go_at_call 15
      refine (HSR.out _ (by assumption)).mono ?_
      rintro _ wc ⟨rfl, hfc⟩
      have HFC := Lib.hid (Fr.trans (by assumption) hfc)
      clear hfc hHeld
      refine hK.out _ _ ?_ (fun hHeld => ?_)
      · exact HFC.out
      clear hK K
      try simp only [Act.put, List.setIfInBounds_toArray, List.set_cons_zero, List.set_cons_succ]
      refine wpAnyH_take (i := 23) (oi := ⟨some 40, _, _, _, _, _⟩) (v := ?_) rfl (by kernel_rfl) (by kernel_rfl) (by kernel_rfl) (fun _ _ _ h => h) (Or.inl ⟨by rfl, ?_⟩) (by assumption) ?_
      rotate_left 1
      · (intro w hSw; (try dsimp only at hSw); obtain ⟨k0, k1, k2, k3, k4, j0, j1, j2, j3, j4⟩ := HSK.out _ hSw; go_simp) <;> (with_reducible rfl)
      try simp only [Act.put, List.setIfInBounds_toArray, List.set_cons_zero, List.set_cons_succ]
      refine wpAnyH_take (i := 24) (oi := ⟨some 41, _, _, _, _, _⟩) (v := ?_) rfl (by kernel_rfl) (by kernel_rfl) (by kernel_rfl) (fun _ _ _ h => h) (Or.inl ⟨by rfl, ?_⟩) (by assumption) ?_
      rotate_left 1
      · (intro w hSw; (try dsimp only at hSw); obtain ⟨k0, k1, k2, k3, k4, j0, j1, j2, j3, j4⟩ := HSK.out _ hSw; go_simp) <;> (with_reducible rfl)
      try simp only [Act.put, List.setIfInBounds_toArray, List.set_cons_zero, List.set_cons_succ]
      refine wpAnyH_done (by kernel_rfl) ?_ _
      have HFW : Hid (Fr NoBlk w wc) := HF.out.trans HFC.out
      go_wp2_with fail
      go_roundw
      case rel => exact ⟨k + 1, by go_num, by omega, HFW⟩
      case measure => simp [intOf]; omega
    · go_wp2_with fail
      go_ret
      exact ⟨rfl, HF.out⟩
end Go.Proofs.Ytkdcacajacndmaa

namespace Go.Proofs.Ytkdcacajacndmaa
open Go.RowKit
/-- a value that may be written over. -/
def Wr (N : Nat) (w : World) (v : VaR) : Prop := 0 < v.vn → ∃ g cs, v.va = some ⟨g, 0, none⟩ ∧ N ≤ g ∧ Bk w g 5 cs ∧ v.vn ≤ cs.size
theorem Fresh.wr {N : Nat} {w : World} {v : VaR} {r : Rec} (h : Fresh N w v r) : Wr N w v := fun hp => by
  rcases h.own.2 with ⟨hv, hx⟩ | ⟨g, cap, cur, hv, hb, hg, hnc, hcm, hcs, htake⟩
  · injection hv with _ h2 _
    omega
  · injection hv with h1 h2 h3
    exact ⟨g, cur, h1, hb, hg, by omega⟩
theorem RowsOf.wr {w : World} {N : Nat} {ys : List ItR} {rs : List Rw} (h : RowsOf w N ys rs) : ∀ y ∈ ys, Wr N w y.2 := fun y hy => by
  obtain ⟨j, hj, rfl⟩ := List.getElem_of_mem hy
  have h1 := h.1
  exact (h.2 j _ _ (List.getElem?_eq_getElem hj) (List.getElem?_eq_getElem (by omega))).2.wr
theorem Wr.put {N : Nat} {w : World} {v : VaR} (h : Wr N w v) (g k : Nat) (u : Value) : Wr N (w.setCell ⟨g, k, none⟩ u) v := fun hp => by
  obtain ⟨g', cs, h1, h2, h3, h4⟩ := h hp
  by_cases e : g' = g
  · subst e
    exact ⟨g', _, h1, h2, h3.put k u, by rw [Array.size_setIfInBounds]; exact h4⟩
  · exact ⟨g', cs, h1, h2, h3.far (p := ⟨g, k, none⟩) e u, h4⟩
/-- what is spoilt so far: the rows from k on are as they were. -/
structure SpI (w wr : World) (N gr : Nat) (cur : Array Value) (ys : List ItR) (k : Nat) : Prop where
  bk : ∃ cs, Bk wr gr 61 cs ∧ cs.size = cur.size ∧ ∀ j, k * 5 ≤ j → cs[j]? = cur[j]?
  val : ∀ y ∈ ys, Wr N wr y.2
  fr : Fr (fun b => N ≤ b) w wr
theorem SpI.putB {w wr : World} {N gr k g q : Nat} {cur cs : Array Value} {ys : List ItR} {u : Value} (h : SpI w wr N gr cur ys k) (hg : N ≤ g) (hb : Bk wr g 5 cs) : SpI w (wr.setCell ⟨g, q, none⟩ u) N gr cur ys k := by
  obtain ⟨cs1, h1, h2, h3⟩ := h.bk
  exact ⟨⟨cs1, h1.far (p := ⟨g, q, none⟩) (h1.apart hb (by decide)) u, h2, h3⟩, fun y hy => (h.val y hy).put _ _ _, h.fr.setCell (p := ⟨g, q, none⟩) (fun _ => hg) u⟩
theorem SpI.next {w wr : World} {N gr k : Nat} {cur : Array Value} {ys : List ItR} (h : SpI w wr N gr cur ys k) (hN : N ≤ gr) : SpI w ((((((wr).setCell ⟨gr, k * 5, none⟩ (.string { data := #[] })).setCell ⟨gr, k * 5 + 1, none⟩ (.bool false)).setCell ⟨gr, k * 5 + 2, none⟩ (.slice none 0 0)).setCell ⟨gr, k * 5 + 3, none⟩ (.int .i64 0)).setCell ⟨gr, k * 5 + 4, none⟩ (.int .u64 0)) N gr cur ys (k + 1) := by
  obtain ⟨cs1, h1, h2, h3⟩ := h.bk
  refine ⟨⟨_, (((((h1).put (k * 5) (.string { data := #[] })).put (k * 5 + 1) (.bool false)).put (k * 5 + 2) (.slice none 0 0)).put (k * 5 + 3) (.int .i64 0)).put (k * 5 + 4) (.int .u64 0), by simp only [Array.size_setIfInBounds]; exact h2, fun j hj => ?_⟩, fun y hy => ?_, (((((h.fr).setCell (p := ⟨gr, k * 5, none⟩) (fun _ => hN) _).setCell (p := ⟨gr, k * 5 + 1, none⟩) (fun _ => hN) _).setCell (p := ⟨gr, k * 5 + 2, none⟩) (fun _ => hN) _).setCell (p := ⟨gr, k * 5 + 3, none⟩) (fun _ => hN) _).setCell (p := ⟨gr, k * 5 + 4, none⟩) (fun _ => hN) _⟩
  · rw [← h3 j (by omega)]
    simp only [Array.getElem?_setIfInBounds]
    repeat rw [if_neg (by omega)]
  · exact (((((h.val y hy).put _ _ _).put _ _ _).put _ _ _).put _ _ _).put _ _ _
set_option maxRecDepth 100000 in
set_option maxHeartbeats 1000000 in
theorem spoil_any (w : World) (N : Nat) (A : Option Addr) (c : Nat) (ys : List ItR) (ho : w.ownsRow N 61 5 (.slice A ys.length c) ys.length (itsR ys)) (hw : ∀ y ∈ ys, Wr N w y.2) (hl : ys.length ≤ 100000) (hv : ∀ y ∈ ys, y.2.vn ≤ 1000000000) :
    Calls Try.prog 22 #[.slice A ys.length c] w fun e w' => (∃ x, e = .returned x) ∧ Fr (fun b => N ≤ b) w w' := by
  obtain ⟨n, hn⟩ : ∃ n, n = ys.length := ⟨_, rfl⟩
  rw [← hn] at hl
  have HN := Lib.hid hn
  rcases ho.2 with ⟨hv1, hx⟩ | ⟨gr, cap, cur, hv1, hb, hg, hnc, hcm, hcs, htake⟩
  · have hn0 : n = 0 := by injection hv1 with _ h2 _; omega
    rw [← hn, hn0]
    clear ho hw hv hv1 hx hn HN hl hn0
    go_enter Try.func22, Try.ntmps22
    go_wp2_with fail
    go_loopw [6] (fun i wr => i = .int .i64 0 ∧ w = wr) (fun _ _ => 0)
    case atStart => exact ⟨rfl, rfl⟩
    case round =>
      obtain ⟨rfl, rfl⟩ := hrel
      go_wp2_with fail
      go_end0
      exact ⟨⟨_, rfl⟩, Fr.refl _ _⟩
  · have hA : A = some ⟨gr, 0, none⟩ := by injection hv1
    have hc : c = cap := by injection hv1
    subst hA hc
    have HI0 : Hid (SpI w w N gr cur ys 0) := ⟨⟨cur, hg, rfl, fun _ _ => rfl⟩, hw, Fr.refl _ _⟩
    have HCU : Hid (∀ k y, ys[k]? = some y → cur[k * 5 + 2]? = some (.slice y.2.va y.2.vn y.2.vc) ∧ k * 5 + 4 < cur.size) := fun k y hy => by
      have hk := (List.getElem?_eq_some_iff.1 hy).1
      have h1 := itsR_get ys k y hy 2 (by omega)
      rw [← htake, List.getElem?_take, if_pos (by rw [← hn]; omega)] at h1
      exact ⟨by rw [Array.getElem?_toList] at h1; exact h1.trans rfl, by omega⟩
    have HGR : Hid (N ≤ gr) := hb
    have HV := Lib.hid hv
    rw [← hn]
    clear ho hv1 hb hg hnc hcm hcs htake hw hv hn
    go_enter Try.func22, Try.ntmps22
    go_wp2_with fail
    go_loopw [6] (fun i wr => ∃ k : Nat, i = .int .i64 (k : Int) ∧ k ≤ n ∧ Hid (SpI w wr N gr cur ys k)) (fun i _ => n - (intOf i).toNat)
    case atStart => exact ⟨0, rfl, Nat.zero_le _, HI0.out⟩
    case round =>
      obtain ⟨k, rfl, hk, HI⟩ := hrel
      clear HI0
      have hw2 : IntKind.i64.wrap ((k : Int) + 1) = ((k + 1 : Nat) : Int) := by rw [IntWalk.i64_in _ (by omega)]; omega
      by_cases hlt : k < n
      · obtain ⟨y, hy⟩ : ∃ y, ys[k]? = some y := ⟨_, List.getElem?_eq_getElem (by have := HN.out; omega)⟩
        have hcu := HCU.out k y hy
        have hym := List.mem_of_getElem? hy
        have HYM := Lib.hid hym
        obtain ⟨cs, hbk, hsz, hcs⟩ := HI.out.bk
        obtain ⟨yk, yh, ya, yn, yc, ym, yt⟩ := y
        dsimp only at hcu
        have d2 : wr.cell? ⟨gr, k * 5 + 2, none⟩ = some (.slice ya yn yc) := by rw [hbk.cell, hcs _ (by omega)]; exact hcu.1
        have HCU4 := Lib.hid hcu.2
        have HYC : Hid (cur[k * 5 + 2]? = some (.slice ya yn yc)) := hcu.1
        have hyn : yn ≤ 1000000000 := HV.out _ hym
        clear hcu hbk hsz hcs hy hym
        go_wp2_with fail
        go_loopw [16] (fun z wx => ∃ q : Nat, z = .int .i64 (q : Int) ∧ q ≤ yn ∧ Hid (SpI w wx N gr cur ys k)) (fun z _ => yn - (intOf z).toNat)
        case atStart => exact ⟨0, rfl, Nat.zero_le _, HI.out⟩
        case round =>
          obtain ⟨wx, rfl⟩ : ∃ w', w' = wr := ⟨_, rfl⟩
          obtain ⟨q, rfl, hq, HJ⟩ := hrel
          clear d2
          obtain ⟨cs, hbk, hsz, hcs⟩ := HJ.out.bk
          have hw3 : IntKind.i64.wrap ((q : Int) + 1) = ((q + 1 : Nat) : Int) := by rw [IntWalk.i64_in _ (by omega)]; omega
          have d2 : wx.cell? ⟨gr, k * 5 + 2, none⟩ = some (.slice ya yn yc) := by
            rw [hbk.cell, hcs _ (by omega)]
            exact HYC.out
          by_cases hqn : q < yn
          · obtain ⟨g, cb8, hva, hgN, hgb, hgs⟩ := HJ.out.val _ HYM.out (by show 0 < yn; omega)
            have hva' : ya = some ⟨g, 0, none⟩ := hva
            subst hva'
            obtain ⟨u8, hu8⟩ : ∃ u, cb8[q]? = some u := ⟨_, Array.getElem?_eq_getElem (by have h : yn ≤ cb8.size := hgs; omega)⟩
            have e2 : wx.cell? ⟨g, q, none⟩ = some u8 := by rw [hgb.cell]; exact hu8
            have ef := hgb.free q
            have HJ2 : Hid (SpI w (wx.setCell ⟨g, q, none⟩ (.int .u8 238)) N gr cur ys k) := HJ.out.putB hgN hgb
            clear hbk hsz hcs hva hgN hgb hgs hu8
            go_wp2_with fail
            go_roundw
            case rel => exact ⟨q + 1, by go_num, by omega, HJ2⟩
            case measure => simp [intOf]; omega
          · have HNX := Lib.hid (HJ.out.next HGR.out)
            have f0 := hbk.free
            have hs5 : k * 5 + 4 < cs.size := by have := HCU4.out; omega
            obtain ⟨z0, e0⟩ : ∃ u, wx.cell? ⟨gr, k * 5, none⟩ = some u := ⟨_, (hbk.cell _).trans (Array.getElem?_eq_getElem (by omega))⟩
            obtain ⟨z1, e1⟩ : ∃ u, wx.cell? ⟨gr, k * 5 + 1, none⟩ = some u := ⟨_, (hbk.cell _).trans (Array.getElem?_eq_getElem (by omega))⟩
            obtain ⟨z3, e3⟩ : ∃ u, wx.cell? ⟨gr, k * 5 + 3, none⟩ = some u := ⟨_, (hbk.cell _).trans (Array.getElem?_eq_getElem (by omega))⟩
            obtain ⟨z4, e4⟩ : ∃ u, wx.cell? ⟨gr, k * 5 + 4, none⟩ = some u := ⟨_, (hbk.cell _).trans (Array.getElem?_eq_getElem (by omega))⟩
            have g0 := f0 (k * 5)
            have g1 := f0 (k * 5 + 1)
            have g2 := f0 (k * 5 + 2)
            have g3 := f0 (k * 5 + 3)
            have g4 := f0 (k * 5 + 4)
            clear hbk hsz hcs f0 hs5
            go_wp2_with fail
            go_roundw
            case rel => exact ⟨k + 1, by go_num, by omega, HNX⟩
            case measure => simp [intOf]; omega
      · go_wp2_with fail
        go_end0
        exact ⟨⟨_, rfl⟩, HI.out.fr⟩
end Go.Proofs.Ytkdcacajacndmaa
