/- Records and rows that are one: SameRecord, Same. Conditions: at most 100000 rows. spoil: it turns nothing but what was handed to it. Conditions: at most 100000 rows. The low bits of a number; pure. No condition. SameRecord and Same told exactly. Conditions: at most 100000 rows. do: a call on two stores, whatever they hold. Conditions: at most 99999 rows; keys and values of at most 500 bytes. -/
import Derived.Test.YtkdcacajacndmaaGa
import Derived.Test.YtkdcacajacndmaaLstP
import Derived.Deep.RegionHeld3
import Derived.IntWalk
import Derived.Test.YtkdcacajacndmaaRfA
import Derived.Test.YtkdcacajacndmaaSRange
import Derived.Test.YtkdcacajacndmaaGr6
namespace Go.Proofs.Ytkdcacajacndmaa
open Go.RowKit
theorem strBs (w : World) (A : Option Addr) (n c : Nat) (l : List UInt8) (hn : n = l.length) (hr : Rd w A (cb l)) :
    (convert 31 9 (.slice A n c)).run Try.prog w = .ok (.string (bstr l)) w :=
  run_str w _ _ 5 Try.underlying31 Try.underlying5 Try.underlying9 A c l n hn hr
/-- rows in memory that are those told. -/
def Told [Ex] (w : World) (ys : List ItR) (rs : List Rw) : Prop := ys.length = rs.length ∧ ∀ (j : Nat) (y : ItR) (r : Rw), ys[j]? = some y → rs[j]? = some r → y.1 = r.1 ∧ Reads w y.2 r.2
theorem Told.fr [Ex] {w w' : World} {C : Nat → Prop} {ys : List ItR} {rs : List Rw} (h : Told w ys rs) (hf : Fr C w w') (hn : ∀ k, Byt w k → ¬ C k) : Told w' ys rs := ⟨h.1, fun j y r hy hr => ⟨(h.2 j y r hy hr).1, (h.2 j y r hy hr).2.fr hf hn⟩⟩
theorem Told.nofr [Ex] {w w' : World} {ys : List ItR} {rs : List Rw} (h : Told w ys rs) (hf : Fr NoBlk w w') : Told w' ys rs := h.fr hf fun _ _ e => e
theorem RowsOf.told [Ex] {w : World} {N : Nat} {ys : List ItR} {rs : List Rw} (h : RowsOf w N ys rs) (hx : ExL N) : Told w ys rs := ⟨h.1, fun j y r hy hr => ⟨(h.2 j y r hy hr).1, (h.2 j y r hy hr).2.reads hx⟩⟩
theorem told_zs [Ex] {w : World} {zs : List Zr} (h : ∀ z ∈ zs, Reads w z.2.1 z.2.2) : Told w (vz zs) (rz zs) := by
  refine ⟨by rw [vz_len, rz_len], fun j y r hy hr => ?_⟩
  unfold vz at hy
  unfold rz at hr
  rw [List.getElem?_map] at hy hr
  obtain ⟨z, hz, rfl⟩ := Option.map_eq_some_iff.1 hy
  rw [hz] at hr
  injection hr with hr
  subst hr
  exact ⟨rfl, h z (List.mem_of_getElem? hz)⟩
set_option maxRecDepth 100000 in
set_option maxHeartbeats 1000000 in
theorem samerec_yes [Ex] (w : World) (u v : VaR) (r : Rec) (hu : Reads w u r) (hv : Reads w v r) :
    Calls Try.prog 15 #[vaR u, vaR v] w fun e w' => e = .returned (.bool true) ∧ Fr NoBlk w w' := by
  obtain ⟨uh, ua, un, uc, um, ut⟩ := u
  obtain ⟨vh, va, vn, vc, vm, vt⟩ := v
  obtain ⟨rh, rv, rm, rt⟩ := r
  obtain rfl : uh = rh := hu.has
  obtain rfl : vh = uh := hv.has
  obtain rfl : um = rm := hu.home
  obtain rfl : vm = um := hv.home
  obtain rfl : ut = rt := hu.count
  obtain rfl : vt = ut := hv.count
  obtain ⟨p, hp⟩ : ∃ p, p = w.heap.size := ⟨_, rfl⟩
  obtain ⟨w1, hw1⟩ : ∃ W, W = (w.alloc (.cells #[.bool vh, .slice ua un uc, .int .i64 vm, .int .u64 (vt : Int)] 38)).alloc (.cells #[.bool vh, .slice va vn vc, .int .i64 vm, .int .u64 (vt : Int)] 38) := ⟨_, rfl⟩
  have hf1 : Fr NoBlk w w1 := by rw [hw1]; exact ((Fr.refl _ _).alloc _).alloc _
  have HP1 : Hid (Bk w1 p 38 #[.bool vh, .slice ua un uc, .int .i64 vm, .int .u64 (vt : Int)]) := by show Bk _ _ _ _; rw [hw1, hp]; exact (Bk.new _ _ _).alloc _
  have HQ1 : Hid (Bk w1 (p + 1) 38 #[.bool vh, .slice va vn vc, .int .i64 vm, .int .u64 (vt : Int)]) := by show Bk _ _ _ _; rw [hw1, hp]; have h := Bk.new (w.alloc (.cells #[.bool vh, .slice ua un uc, .int .i64 vm, .int .u64 (vt : Int)] 38)) 38 #[.bool vh, .slice va vn vc, .int .i64 vm, .int .u64 (vt : Int)]; rw [World.size_alloc] at h; exact h
  have q1 := strBs w1 ua un uc rv hu.len (hu.rd.nofr hf1)
  have q2 := strBs w1 va vn vc rv hv.len (hv.rd.nofr hf1)
  have HF1 := Lib.hid hf1
  have HW1 := Lib.hid hw1
  have HP := Lib.hid hp
  have hqq : ((bstr rv).toList == (bstr rv).toList) = true := eq_bstr rfl
  clear hu hv hf1 hw1 hp
  unfold vaR
  go_enter Try.func15, Try.ntmps15
  go_upto_region 1 with fail
  rw [← HW1.out, ← HP.out]
  clear HW1 HP
  have a0 : w1.cell? ⟨p, 0, none⟩ = some (.bool vh) := HP1.out.cell 0
  have a1 : w1.cell? ⟨p, 1, none⟩ = some (.slice ua un uc) := HP1.out.cell 1
  have a2 : w1.cell? ⟨p, 2, none⟩ = some (.int .i64 vm) := HP1.out.cell 2
  have a3 : w1.cell? ⟨p, 3, none⟩ = some (.int .u64 (vt : Int)) := HP1.out.cell 3
  have b0 : w1.cell? ⟨p + 1, 0, none⟩ = some (.bool vh) := HQ1.out.cell 0
  have b1 : w1.cell? ⟨p + 1, 1, none⟩ = some (.slice va vn vc) := HQ1.out.cell 1
  have b2 : w1.cell? ⟨p + 1, 2, none⟩ = some (.int .i64 vm) := HQ1.out.cell 2
  have b3 : w1.cell? ⟨p + 1, 3, none⟩ = some (.int .u64 (vt : Int)) := HQ1.out.cell 3
  cases vh <;>
  · go_wp2_with fail
    go_ret
    exact ⟨rfl, HF1.out⟩
set_option maxRecDepth 100000 in
set_option maxHeartbeats 1000000 in
theorem same_yes [Ex] (w : World) (A : Option Addr) (c : Nat) (ys : List ItR) (B : Option Addr) (d : Nat) (us : List ItR) (rs : List Rw) (hA : Rd w A (itsR ys)) (hB : Rd w B (itsR us)) (hy : Told w ys rs) (hu : Told w us rs) (hl : rs.length ≤ 100000) :
    Calls Try.prog 19 #[.slice A ys.length c, .slice B us.length d] w fun e w' => e = .returned (.bool true) ∧ Fr NoBlk w w' := by
  obtain ⟨N, hN⟩ : ∃ N, N = rs.length := ⟨_, rfl⟩
  have HN := Lib.hid hN
  rw [hy.1, hu.1, ← hN]
  have hnn : N ≤ 100000 := by rw [hN]; exact hl
  have H := Lib.hid (And.intro hA (And.intro hB (And.intro hy hu)))
  clear hA hB hy hu hl hN
  go_enter Try.func19, Try.ntmps19
  go_wp2_with fail
  go_loopw [5] (fun z wr => ∃ k : Nat, z = .int .i64 (k : Int) ∧ k ≤ N ∧ Hid (Fr NoBlk w wr)) (fun z _ => N - (intOf z).toNat)
  case atStart => exact ⟨0, rfl, Nat.zero_le _, Fr.refl _ _⟩
  case round =>
    obtain ⟨k, rfl, hk, HF⟩ := hrel
    have hw2 : IntKind.i64.wrap ((k : Int) + 1) = ((k + 1 : Nat) : Int) := by rw [IntWalk.i64_in _ (by omega)]; omega
    by_cases hlt : k < N
    · obtain ⟨y, hy⟩ : ∃ y, ys[k]? = some y := ⟨_, List.getElem?_eq_getElem (by have := H.out.2.2.1.1; have := HN.out; omega)⟩
      obtain ⟨u, hu⟩ : ∃ u, us[k]? = some u := ⟨_, List.getElem?_eq_getElem (by have := H.out.2.2.2.1; have := HN.out; omega)⟩
      obtain ⟨r, hr⟩ : ∃ r, rs[k]? = some r := ⟨_, List.getElem?_eq_getElem (by have := HN.out; omega)⟩
      obtain ⟨b, o, hAb, d0, d1, d2, d3, d4⟩ := (H.out.1.nofr HF.out).itR hy
      obtain ⟨b2, o2, hBb, g0, g1, g2, g3, g4⟩ := (H.out.2.1.nofr HF.out).itR hu
      subst hAb hBb
      have h1 := H.out.2.2.1.2 k y r hy hr
      have h2 := H.out.2.2.2.2 k u r hu hr
      obtain ⟨yk, yv⟩ := y
      obtain ⟨uk, uv⟩ := u
      obtain ⟨rk, rr⟩ := r
      obtain rfl : yk = rk := h1.1
      obtain rfl : uk = yk := h2.1
      dsimp only at d0 d1 d2 d3 d4 g0 g1 g2 g3 g4
      have HSR : Hid (∀ V, Fr NoBlk wr V → Calls Try.prog 15 #[.agg #[.bool yv.has, .slice yv.va yv.vn yv.vc, .int .i64 yv.home, .int .u64 (yv.count : Int)], .agg #[.bool uv.has, .slice uv.va uv.vn uv.vc, .int .i64 uv.home, .int .u64 (uv.count : Int)]] V fun e V' => e = .returned (.bool true) ∧ Fr NoBlk V V') := fun V hV => samerec_yes V yv uv rr (h1.2.nofr (HF.out.trans hV)) (h2.2.nofr (HF.out.trans hV))
      have hbl : b < wr.heap.size := by
        unfold World.cell? at d0
        split at d0
        · rename_i h9
          exact (Array.getElem?_eq_some_iff.1 (by assumption)).1
        · cases d0
      have hbl2 : b2 < wr.heap.size := by
        unfold World.cell? at g0
        split at g0
        · rename_i h9
          exact (Array.getElem?_eq_some_iff.1 (by assumption)).1
        · cases g0
      have HSK : Hid (∀ w', Fr NoBlk wr w' → w'.cell? ⟨b, o + k * 5, none⟩ = some (.string (bstr uk)) ∧ w'.cell? ⟨b, o + k * 5 + 1, none⟩ = some (.bool yv.has) ∧ w'.cell? ⟨b, o + k * 5 + 2, none⟩ = some (.slice yv.va yv.vn yv.vc) ∧ w'.cell? ⟨b, o + k * 5 + 3, none⟩ = some (.int .i64 yv.home) ∧ w'.cell? ⟨b, o + k * 5 + 4, none⟩ = some (.int .u64 (yv.count : Int)) ∧
          w'.cell? ⟨b2, o2 + k * 5, none⟩ = some (.string (bstr uk)) ∧ w'.cell? ⟨b2, o2 + k * 5 + 1, none⟩ = some (.bool uv.has) ∧ w'.cell? ⟨b2, o2 + k * 5 + 2, none⟩ = some (.slice uv.va uv.vn uv.vc) ∧ w'.cell? ⟨b2, o2 + k * 5 + 3, none⟩ = some (.int .i64 uv.home) ∧ w'.cell? ⟨b2, o2 + k * 5 + 4, none⟩ = some (.int .u64 (uv.count : Int))) := fun w' hw =>
        have hc : ∀ j, w'.cell? ⟨b, j, none⟩ = wr.cell? ⟨b, j, none⟩ := fun j => hw.cell (p := ⟨b, j, none⟩) hbl fun e => e
        have hc2 : ∀ j, w'.cell? ⟨b2, j, none⟩ = wr.cell? ⟨b2, j, none⟩ := fun j => hw.cell (p := ⟨b2, j, none⟩) hbl2 fun e => e
        ⟨(hc _).trans d0, (hc _).trans d1, (hc _).trans d2, (hc _).trans d3, (hc _).trans d4, (hc2 _).trans g0, (hc2 _).trans g1, (hc2 _).trans g2, (hc2 _).trans g3, (hc2 _).trans g4⟩
      have hqq : ((bstr uk).toList == (bstr uk).toList) = true := eq_bstr rfl
      clear hy hu hr h1 h2 d0 d1 d2 d3 d4 g0 g1 g2 g3 g4 hbl hbl2
      go_wp2_with fail
      refine wp_region_held_drew (S := fun w' => Fr NoBlk wr w') (by kernel_rfl) ((Fr.refl _ _).drew) (fun hHeld => ?_)
      refine wpAnyH_take (i := 0) (oi := ⟨some 17, _, _, _, _, _⟩) (v := ?_) rfl (by kernel_rfl) (by kernel_rfl) (by kernel_rfl) (fun _ _ _ h => h) (Or.inl ⟨by rfl, ?_⟩) (by assumption) ?_
      rotate_left 1
      · (intro w hSw; (try dsimp only at hSw); obtain ⟨k0, k1, k2, k3, k4, j0, j1, j2, j3, j4⟩ := HSK.out _ hSw; go_simp) <;> (with_reducible rfl)
      try simp only [Act.put, List.setIfInBounds_toArray, List.set_cons_zero, List.set_cons_succ]
      refine wpAnyH_take (i := 1) (oi := ⟨some 18, _, _, _, _, _⟩) (v := ?_) rfl (by kernel_rfl) (by kernel_rfl) (by kernel_rfl) (fun _ _ _ h => h) (Or.inl ⟨by rfl, ?_⟩) (by assumption) ?_
      rotate_left 1
      · (intro w hSw; (try dsimp only at hSw); obtain ⟨k0, k1, k2, k3, k4, j0, j1, j2, j3, j4⟩ := HSK.out _ hSw; go_simp) <;> (with_reducible rfl)
      try simp only [Act.put, List.setIfInBounds_toArray, List.set_cons_zero, List.set_cons_succ]
      refine wpAnyH_take (i := 2) (oi := ⟨some 19, _, _, _, _, _⟩) (v := ?_) rfl (by kernel_rfl) (by kernel_rfl) (by kernel_rfl) (fun _ _ _ h => h) (Or.inl ⟨by rfl, ?_⟩) (by assumption) ?_
      rotate_left 1
      · (intro w hSw; (try dsimp only at hSw); obtain ⟨k0, k1, k2, k3, k4, j0, j1, j2, j3, j4⟩ := HSK.out _ hSw; go_simp) <;> (with_reducible rfl)
      try simp only [Act.put, List.setIfInBounds_toArray, List.set_cons_zero, List.set_cons_succ]
      refine wpAnyH_take (i := 3) (oi := ⟨some 20, _, _, _, _, _⟩) (v := ?_) rfl (by kernel_rfl) (by kernel_rfl) (by kernel_rfl) (fun _ _ _ h => h) (Or.inl ⟨by rfl, ?_⟩) (by assumption) ?_
      rotate_left 1
      · (intro w hSw; (try dsimp only at hSw); obtain ⟨k0, k1, k2, k3, k4, j0, j1, j2, j3, j4⟩ := HSK.out _ hSw; go_simp) <;> (with_reducible rfl)
      try simp only [Act.put, List.setIfInBounds_toArray, List.set_cons_zero, List.set_cons_succ]
      refine wpAnyH_take (i := 4) (oi := ⟨some 21, _, _, _, _, _⟩) (v := ?_) rfl (by kernel_rfl) (by kernel_rfl) (by kernel_rfl) (fun _ _ _ h => h) (Or.inl ⟨by rfl, ?_⟩) (by assumption) ?_
      rotate_left 1
      · (intro w hSw; (try dsimp only at hSw); obtain ⟨k0, k1, k2, k3, k4, j0, j1, j2, j3, j4⟩ := HSK.out _ hSw; go_simp) <;> (with_reducible rfl)
      try simp only [Act.put, List.setIfInBounds_toArray, List.set_cons_zero, List.set_cons_succ]
      refine wpAnyH_take (i := 5) (oi := ⟨some 22, _, _, _, _, _⟩) (v := ?_) rfl (by kernel_rfl) (by kernel_rfl) (by kernel_rfl) (fun _ _ _ h => h) (Or.inl ⟨by rfl, ?_⟩) (by assumption) ?_
      rotate_left 1
      · (intro w hSw; (try dsimp only at hSw); obtain ⟨k0, k1, k2, k3, k4, j0, j1, j2, j3, j4⟩ := HSK.out _ hSw; go_simp) <;> (with_reducible rfl)
      try simp only [Act.put, List.setIfInBounds_toArray, List.set_cons_zero, List.set_cons_succ]
      refine wpAnyH_take (i := 6) (oi := ⟨some 23, _, _, _, _, _⟩) (v := ?_) rfl (by kernel_rfl) (by kernel_rfl) (by kernel_rfl) (fun _ _ _ h => h) (Or.inl ⟨by rfl, ?_⟩) (by assumption) ?_
      rotate_left 1
      · (intro w hSw; (try dsimp only at hSw); obtain ⟨k0, k1, k2, k3, k4, j0, j1, j2, j3, j4⟩ := HSK.out _ hSw; go_simp) <;> (with_reducible rfl)
      try simp only [Act.put, List.setIfInBounds_toArray, List.set_cons_zero, List.set_cons_succ]
      refine wpAnyH_take (i := 7) (oi := ⟨some 24, _, _, _, _, _⟩) (v := ?_) rfl (by kernel_rfl) (by kernel_rfl) (by kernel_rfl) (fun _ _ _ h => h) (Or.inl ⟨by rfl, ?_⟩) (by assumption) ?_
      rotate_left 1
      · (intro w hSw; (try dsimp only at hSw); obtain ⟨k0, k1, k2, k3, k4, j0, j1, j2, j3, j4⟩ := HSK.out _ hSw; go_simp) <;> (with_reducible rfl)
      try simp only [Act.put, List.setIfInBounds_toArray, List.set_cons_zero, List.set_cons_succ]
      refine wpAnyH_take (i := 8) (oi := ⟨some 25, _, _, _, _, _⟩) (v := ?_) rfl (by kernel_rfl) (by kernel_rfl) (by kernel_rfl) (fun _ _ _ h => h) (Or.inl ⟨by rfl, ?_⟩) (by assumption) ?_
      rotate_left 1
      · (intro w hSw; (try dsimp only at hSw); obtain ⟨k0, k1, k2, k3, k4, j0, j1, j2, j3, j4⟩ := HSK.out _ hSw; go_simp) <;> (with_reducible rfl)
      try simp only [Act.put, List.setIfInBounds_toArray, List.set_cons_zero, List.set_cons_succ]
      refine wpAnyH_take (i := 9) (oi := ⟨some 26, _, _, _, _, _⟩) (v := ?_) rfl (by kernel_rfl) (by kernel_rfl) (by kernel_rfl) (fun _ _ _ h => h) (Or.inl ⟨by rfl, ?_⟩) (by assumption) ?_
      rotate_left 1
      · (intro w hSw; (try dsimp only at hSw); obtain ⟨k0, k1, k2, k3, k4, j0, j1, j2, j3, j4⟩ := HSK.out _ hSw; go_simp) <;> (with_reducible rfl)
      try simp only [Act.put, List.setIfInBounds_toArray, List.set_cons_zero, List.set_cons_succ]
      refine wpAnyH_take (i := 10) (oi := ⟨some 27, _, _, _, _, _⟩) (v := ?_) rfl (by kernel_rfl) (by kernel_rfl) (by kernel_rfl) (fun _ _ _ h => h) (Or.inl ⟨by rfl, ?_⟩) (by assumption) ?_
      rotate_left 1
      · (intro w hSw; (try dsimp only at hSw); obtain ⟨k0, k1, k2, k3, k4, j0, j1, j2, j3, j4⟩ := HSK.out _ hSw; go_simp) <;> (with_reducible rfl)
      try simp only [Act.put, List.setIfInBounds_toArray, List.set_cons_zero, List.set_cons_succ]
      refine wpAnyH_take (i := 11) (oi := ⟨some 28, _, _, _, _, _⟩) (v := ?_) rfl (by kernel_rfl) (by kernel_rfl) (by kernel_rfl) (fun _ _ _ h => h) (Or.inl ⟨by rfl, ?_⟩) (by assumption) ?_
      rotate_left 1
      · (intro w hSw; (try dsimp only at hSw); obtain ⟨k0, k1, k2, k3, k4, j0, j1, j2, j3, j4⟩ := HSK.out _ hSw; go_simp) <;> (with_reducible rfl)
      try simp only [Act.put, List.setIfInBounds_toArray, List.set_cons_zero, List.set_cons_succ]
      refine wpAnyH_take (i := 12) (oi := ⟨some 29, _, _, _, _, _⟩) (v := ?_) rfl (by kernel_rfl) (by kernel_rfl) (by kernel_rfl) (fun _ _ _ h => h) (Or.inl ⟨by rfl, ?_⟩) (by assumption) ?_
      rotate_left 1
      · (intro w hSw; (try dsimp only at hSw); obtain ⟨k0, k1, k2, k3, k4, j0, j1, j2, j3, j4⟩ := HSK.out _ hSw; go_simp) <;> (with_reducible rfl)
      try simp only [Act.put, List.setIfInBounds_toArray, List.set_cons_zero, List.set_cons_succ]
      refine wpAnyH_take (i := 13) (oi := ⟨some 30, _, _, _, _, _⟩) (v := ?_) rfl (by kernel_rfl) (by kernel_rfl) (by kernel_rfl) (fun _ _ _ h => h) (Or.inl ⟨by rfl, ?_⟩) (by assumption) ?_
      rotate_left 1
      · (intro w hSw; (try dsimp only at hSw); obtain ⟨k0, k1, k2, k3, k4, j0, j1, j2, j3, j4⟩ := HSK.out _ hSw; go_simp) <;> (with_reducible rfl)
      try simp only [Act.put, List.setIfInBounds_toArray, List.set_cons_zero, List.set_cons_succ]
      refine wpAnyH_take (i := 14) (oi := ⟨some 31, _, _, _, _, _⟩) (v := ?_) rfl (by kernel_rfl) (by kernel_rfl) (by kernel_rfl) (fun _ _ _ h => h) (Or.inl ⟨by rfl, ?_⟩) (by assumption) ?_
      rotate_left 1
      · (intro w hSw; (try dsimp only at hSw); obtain ⟨k0, k1, k2, k3, k4, j0, j1, j2, j3, j4⟩ := HSK.out _ hSw; go_simp) <;> (with_reducible rfl)
      try simp only [Act.put, List.setIfInBounds_toArray, List.set_cons_zero, List.set_cons_succ]
      refine wpAnyH_take (i := 15) (oi := ⟨some 32, _, _, _, _, _⟩) (v := ?_) rfl (by kernel_rfl) (by kernel_rfl) (by kernel_rfl) (fun _ _ _ h => h) (Or.inl ⟨by rfl, ?_⟩) (by assumption) ?_
      rotate_left 1
      · (intro w hSw; (try dsimp only at hSw); obtain ⟨k0, k1, k2, k3, k4, j0, j1, j2, j3, j4⟩ := HSK.out _ hSw; go_simp) <;> (with_reducible rfl)
      try simp only [Act.put, List.setIfInBounds_toArray, List.set_cons_zero, List.set_cons_succ]
      refine wpAnyH_take (i := 16) (oi := ⟨some 33, _, _, _, _, _⟩) (v := ?_) rfl (by kernel_rfl) (by kernel_rfl) (by kernel_rfl) (fun _ _ _ h => h) (Or.inl ⟨by rfl, ?_⟩) (by assumption) ?_
      rotate_left 1
      · (intro w hSw; (try dsimp only at hSw); obtain ⟨k0, k1, k2, k3, k4, j0, j1, j2, j3, j4⟩ := HSK.out _ hSw; go_simp) <;> (with_reducible rfl)
      try simp only [Act.put, List.setIfInBounds_toArray, List.set_cons_zero, List.set_cons_succ]
      refine wpAnyH_take (i := 17) (oi := ⟨some 34, _, _, _, _, _⟩) (v := ?_) rfl (by kernel_rfl) (by kernel_rfl) (by kernel_rfl) (fun _ _ _ h => h) (Or.inl ⟨by rfl, ?_⟩) (by assumption) ?_
      rotate_left 1
      · (intro w hSw; (try dsimp only at hSw); obtain ⟨k0, k1, k2, k3, k4, j0, j1, j2, j3, j4⟩ := HSK.out _ hSw; go_simp) <;> (with_reducible rfl)
      try simp only [Act.put, List.setIfInBounds_toArray, List.set_cons_zero, List.set_cons_succ]
      refine wpAnyH_take (i := 18) (oi := ⟨some 35, _, _, _, _, _⟩) (v := ?_) rfl (by kernel_rfl) (by kernel_rfl) (by kernel_rfl) (fun _ _ _ h => h) (Or.inl ⟨by rfl, ?_⟩) (by assumption) ?_
      rotate_left 1
      · (intro w hSw; (try dsimp only at hSw); obtain ⟨k0, k1, k2, k3, k4, j0, j1, j2, j3, j4⟩ := HSK.out _ hSw; go_simp) <;> (with_reducible rfl)
      try simp only [Act.put, List.setIfInBounds_toArray, List.set_cons_zero, List.set_cons_succ]
      refine wpAnyH_take (i := 19) (oi := ⟨some 36, _, _, _, _, _⟩) (v := ?_) rfl (by kernel_rfl) (by kernel_rfl) (by kernel_rfl) (fun _ _ _ h => h) (Or.inl ⟨by rfl, ?_⟩) (by assumption) ?_
      rotate_left 1
      · (intro w hSw; (try dsimp only at hSw); obtain ⟨k0, k1, k2, k3, k4, j0, j1, j2, j3, j4⟩ := HSK.out _ hSw; go_simp) <;> (with_reducible rfl)
      try simp only [Act.put, List.setIfInBounds_toArray, List.set_cons_zero, List.set_cons_succ]
      refine wpAnyH_take (i := 20) (oi := ⟨some 37, _, _, _, _, _⟩) (v := ?_) rfl (by kernel_rfl) (by kernel_rfl) (by kernel_rfl) (fun _ _ _ h => h) (Or.inl ⟨by rfl, ?_⟩) (by assumption) ?_
      rotate_left 1
      · (intro w hSw; (try dsimp only at hSw); obtain ⟨k0, k1, k2, k3, k4, j0, j1, j2, j3, j4⟩ := HSK.out _ hSw; go_simp) <;> (with_reducible rfl)
      try simp only [Act.put, List.setIfInBounds_toArray, List.set_cons_zero, List.set_cons_succ]
      refine wpAnyH_take (i := 21) (oi := ⟨some 38, _, _, _, _, _⟩) (v := ?_) rfl (by kernel_rfl) (by kernel_rfl) (by kernel_rfl) (fun _ _ _ h => h) (Or.inl ⟨by rfl, ?_⟩) (by assumption) ?_
      rotate_left 1
      · (intro w hSw; (try dsimp only at hSw); obtain ⟨k0, k1, k2, k3, k4, j0, j1, j2, j3, j4⟩ := HSK.out _ hSw; go_simp) <;> (with_reducible rfl)
      try simp only [Act.put, List.setIfInBounds_toArray, List.set_cons_zero, List.set_cons_succ]
      refine wpAnyH_ready (rs := [22]) (by kernel_rfl) (by simp) ?_
      refine AllReadyH.cons (o := ⟨some 39, _, _, _, _, _⟩) rfl (fun K hK => ?_) AllReadyH.nil
      go_simp
      go_at_call 15
      refine (HSR.out _ (by assumption)).mono ?_
      rintro _ wc ⟨rfl, hfc⟩
      have HFC := Lib.hid (Fr.trans (by assumption) hfc)
      clear hfc hHeld
      refine hK.out _ _ ?_ (fun hHeld => ?_)
      · exact HFC.out
      clear hK K
      try simp only [Act.put, List.setIfInBounds_toArray, List.set_cons_zero, List.set_cons_succ]
      refine wpAnyH_take (i := 23) (oi := ⟨some 40, _, _, _, _, _⟩) (v := ?_) rfl (by kernel_rfl) (by kernel_rfl) (by kernel_rfl) (fun _ _ _ h => h) (Or.inl ⟨by rfl, ?_⟩) (by assumption) ?_
      rotate_left 1
      · (intro w hSw; (try dsimp only at hSw); obtain ⟨k0, k1, k2, k3, k4, j0, j1, j2, j3, j4⟩ := HSK.out _ hSw; go_simp) <;> (with_reducible rfl)
      try simp only [Act.put, List.setIfInBounds_toArray, List.set_cons_zero, List.set_cons_succ]
      refine wpAnyH_take (i := 24) (oi := ⟨some 41, _, _, _, _, _⟩) (v := ?_) rfl (by kernel_rfl) (by kernel_rfl) (by kernel_rfl) (fun _ _ _ h => h) (Or.inl ⟨by rfl, ?_⟩) (by assumption) ?_
      rotate_left 1
      · (intro w hSw; (try dsimp only at hSw); obtain ⟨k0, k1, k2, k3, k4, j0, j1, j2, j3, j4⟩ := HSK.out _ hSw; go_simp) <;> (with_reducible rfl)
      try simp only [Act.put, List.setIfInBounds_toArray, List.set_cons_zero, List.set_cons_succ]
      refine wpAnyH_done (by kernel_rfl) ?_ _
      have HFW : Hid (Fr NoBlk w wc) := HF.out.trans HFC.out
      go_wp2_with fail
      go_roundw
      case rel => exact ⟨k + 1, by go_num, by omega, HFW⟩
      case measure => simp [intOf]; omega
    · go_wp2_with fail
      go_ret
      exact ⟨rfl, HF.out⟩
end Go.Proofs.Ytkdcacajacndmaa

namespace Go.Proofs.Ytkdcacajacndmaa
open Go.RowKit
/-- a value that may be written over. -/
def Wr (N : Nat) (w : World) (v : VaR) : Prop := 0 < v.vn → ∃ g cs, v.va = some ⟨g, 0, none⟩ ∧ N ≤ g ∧ Bk w g 5 cs ∧ v.vn ≤ cs.size
theorem Fresh.wr {N : Nat} {w : World} {v : VaR} {r : Rec} (h : Fresh N w v r) : Wr N w v := fun hp => by
  rcases h.own.2 with ⟨hv, hx⟩ | ⟨g, cap, cur, hv, hb, hg, hnc, hcm, hcs, htake⟩
  · injection hv with _ h2 _
    omega
  · injection hv with h1 h2 h3
    exact ⟨g, cur, h1, hb, hg, by omega⟩
theorem RowsOf.wr {w : World} {N : Nat} {ys : List ItR} {rs : List Rw} (h : RowsOf w N ys rs) : ∀ y ∈ ys, Wr N w y.2 := fun y hy => by
  obtain ⟨j, hj, rfl⟩ := List.getElem_of_mem hy
  have h1 := h.1
  exact (h.2 j _ _ (List.getElem?_eq_getElem hj) (List.getElem?_eq_getElem (by omega))).2.wr
theorem Wr.put {N : Nat} {w : World} {v : VaR} (h : Wr N w v) (g k : Nat) (u : Value) : Wr N (w.setCell ⟨g, k, none⟩ u) v := fun hp => by
  obtain ⟨g', cs, h1, h2, h3, h4⟩ := h hp
  by_cases e : g' = g
  · subst e
    exact ⟨g', _, h1, h2, h3.put k u, by rw [Array.size_setIfInBounds]; exact h4⟩
  · exact ⟨g', cs, h1, h2, h3.far (p := ⟨g, k, none⟩) e u, h4⟩
/-- what is spoilt so far: the rows from k on are as they were. -/
structure SpI (w wr : World) (N gr : Nat) (cur : Array Value) (ys : List ItR) (k : Nat) : Prop where
  bk : ∃ cs, Bk wr gr 61 cs ∧ cs.size = cur.size ∧ ∀ j, k * 5 ≤ j → cs[j]? = cur[j]?
  val : ∀ y ∈ ys, Wr N wr y.2
  fr : Fr (fun b => N ≤ b) w wr
theorem SpI.putB {w wr : World} {N gr k g q : Nat} {cur cs : Array Value} {ys : List ItR} {u : Value} (h : SpI w wr N gr cur ys k) (hg : N ≤ g) (hb : Bk wr g 5 cs) : SpI w (wr.setCell ⟨g, q, none⟩ u) N gr cur ys k := by
  obtain ⟨cs1, h1, h2, h3⟩ := h.bk
  exact ⟨⟨cs1, h1.far (p := ⟨g, q, none⟩) (h1.apart hb (by decide)) u, h2, h3⟩, fun y hy => (h.val y hy).put _ _ _, h.fr.setCell (p := ⟨g, q, none⟩) (fun _ => hg) u⟩
theorem SpI.next {w wr : World} {N gr k : Nat} {cur : Array Value} {ys : List ItR} (h : SpI w wr N gr cur ys k) (hN : N ≤ gr) : SpI w ((((((wr).setCell ⟨gr, k * 5, none⟩ (.string { data := #[] })).setCell ⟨gr, k * 5 + 1, none⟩ (.bool false)).setCell ⟨gr, k * 5 + 2, none⟩ (.slice none 0 0)).setCell ⟨gr, k * 5 + 3, none⟩ (.int .i64 0)).setCell ⟨gr, k * 5 + 4, none⟩ (.int .u64 0)) N gr cur ys (k + 1) := by
  obtain ⟨cs1, h1, h2, h3⟩ := h.bk
  refine ⟨⟨_, (((((h1).put (k * 5) (.string { data := #[] })).put (k * 5 + 1) (.bool false)).put (k * 5 + 2) (.slice none 0 0)).put (k * 5 + 3) (.int .i64 0)).put (k * 5 + 4) (.int .u64 0), by simp only [Array.size_setIfInBounds]; exact h2, fun j hj => ?_⟩, fun y hy => ?_, (((((h.fr).setCell (p := ⟨gr, k * 5, none⟩) (fun _ => hN) _).setCell (p := ⟨gr, k * 5 + 1, none⟩) (fun _ => hN) _).setCell (p := ⟨gr, k * 5 + 2, none⟩) (fun _ => hN) _).setCell (p := ⟨gr, k * 5 + 3, none⟩) (fun _ => hN) _).setCell (p := ⟨gr, k * 5 + 4, none⟩) (fun _ => hN) _⟩
  · rw [← h3 j (by omega)]
    simp only [Array.getElem?_setIfInBounds]
    repeat rw [if_neg (by omega)]
  · exact (((((h.val y hy).put _ _ _).put _ _ _).put _ _ _).put _ _ _).put _ _ _
set_option maxRecDepth 100000 in
set_option maxHeartbeats 1000000 in
theorem spoil_any (w : World) (N : Nat) (A : Option Addr) (c : Nat) (ys : List ItR) (ho : w.ownsRow N 61 5 (.slice A ys.length c) ys.length (itsR ys)) (hw : ∀ y ∈ ys, Wr N w y.2) (hl : ys.length ≤ 100000) (hv : ∀ y ∈ ys, y.2.vn ≤ 1000000000) :
    Calls Try.prog 22 #[.slice A ys.length c] w fun e w' => (∃ x, e = .returned x) ∧ Fr (fun b => N ≤ b) w w' := by
  obtain ⟨n, hn⟩ : ∃ n, n = ys.length := ⟨_, rfl⟩
  rw [← hn] at hl
  have HN := Lib.hid hn
  rcases ho.2 with ⟨hv1, hx⟩ | ⟨gr, cap, cur, hv1, hb, hg, hnc, hcm, hcs, htake⟩
  · have hn0 : n = 0 := by injection hv1 with _ h2 _; omega
    rw [← hn, hn0]
    clear ho hw hv hv1 hx hn HN hl hn0
    go_enter Try.func22, Try.ntmps22
    go_wp2_with fail
    go_loopw [6] (fun i wr => i = .int .i64 0 ∧ w = wr) (fun _ _ => 0)
    case atStart => exact ⟨rfl, rfl⟩
    case round =>
      obtain ⟨rfl, rfl⟩ := hrel
      go_wp2_with fail
      go_end0
      exact ⟨⟨_, rfl⟩, Fr.refl _ _⟩
  · have hA : A = some ⟨gr, 0, none⟩ := by injection hv1
    have hc : c = cap := by injection hv1
    subst hA hc
    have HI0 : Hid (SpI w w N gr cur ys 0) := ⟨⟨cur, hg, rfl, fun _ _ => rfl⟩, hw, Fr.refl _ _⟩
    have HCU : Hid (∀ k y, ys[k]? = some y → cur[k * 5 + 2]? = some (.slice y.2.va y.2.vn y.2.vc) ∧ k * 5 + 4 < cur.size) := fun k y hy => by
      have hk := (List.getElem?_eq_some_iff.1 hy).1
      have h1 := itsR_get ys k y hy 2 (by omega)
      rw [← htake, List.getElem?_take, if_pos (by rw [← hn]; omega)] at h1
      exact ⟨by rw [Array.getElem?_toList] at h1; exact h1.trans rfl, by omega⟩
    have HGR : Hid (N ≤ gr) := hb
    have HV := Lib.hid hv
    rw [← hn]
    clear ho hv1 hb hg hnc hcm hcs htake hw hv hn
    go_enter Try.func22, Try.ntmps22
    go_wp2_with fail
    go_loopw [6] (fun i wr => ∃ k : Nat, i = .int .i64 (k : Int) ∧ k ≤ n ∧ Hid (SpI w wr N gr cur ys k)) (fun i _ => n - (intOf i).toNat)
    case atStart => exact ⟨0, rfl, Nat.zero_le _, HI0.out⟩
    case round =>
      obtain ⟨k, rfl, hk, HI⟩ := hrel
      clear HI0
      have hw2 : IntKind.i64.wrap ((k : Int) + 1) = ((k + 1 : Nat) : Int) := by rw [IntWalk.i64_in _ (by omega)]; omega
      by_cases hlt : k < n
      · obtain ⟨y, hy⟩ : ∃ y, ys[k]? = some y := ⟨_, List.getElem?_eq_getElem (by have := HN.out; omega)⟩
        have hcu := HCU.out k y hy
        have hym := List.mem_of_getElem? hy
        have HYM := Lib.hid hym
        obtain ⟨cs, hbk, hsz, hcs⟩ := HI.out.bk
        obtain ⟨yk, yh, ya, yn, yc, ym, yt⟩ := y
        dsimp only at hcu
        have d2 : wr.cell? ⟨gr, k * 5 + 2, none⟩ = some (.slice ya yn yc) := by rw [hbk.cell, hcs _ (by omega)]; exact hcu.1
        have HCU4 := Lib.hid hcu.2
        have HYC : Hid (cur[k * 5 + 2]? = some (.slice ya yn yc)) := hcu.1
        have hyn : yn ≤ 1000000000 := HV.out _ hym
        clear hcu hbk hsz hcs hy hym
        go_wp2_with fail
        go_loopw [16] (fun z wx => ∃ q : Nat, z = .int .i64 (q : Int) ∧ q ≤ yn ∧ Hid (SpI w wx N gr cur ys k)) (fun z _ => yn - (intOf z).toNat)
        case atStart => exact ⟨0, rfl, Nat.zero_le _, HI.out⟩
        case round =>
          obtain ⟨wx, rfl⟩ : ∃ w', w' = wr := ⟨_, rfl⟩
          obtain ⟨q, rfl, hq, HJ⟩ := hrel
          clear d2
          obtain ⟨cs, hbk, hsz, hcs⟩ := HJ.out.bk
          have hw3 : IntKind.i64.wrap ((q : Int) + 1) = ((q + 1 : Nat) : Int) := by rw [IntWalk.i64_in _ (by omega)]; omega
          have d2 : wx.cell? ⟨gr, k * 5 + 2, none⟩ = some (.slice ya yn yc) := by
            rw [hbk.cell, hcs _ (by omega)]
            exact HYC.out
          by_cases hqn : q < yn
          · obtain ⟨g, cb8, hva, hgN, hgb, hgs⟩ := HJ.out.val _ HYM.out (by show 0 < yn; omega)
            have hva' : ya = some ⟨g, 0, none⟩ := hva
            subst hva'
            obtain ⟨u8, hu8⟩ : ∃ u, cb8[q]? = some u := ⟨_, Array.getElem?_eq_getElem (by have h : yn ≤ cb8.size := hgs; omega)⟩
            have e2 : wx.cell? ⟨g, q, none⟩ = some u8 := by rw [hgb.cell]; exact hu8
            have ef := hgb.free q
            have HJ2 : Hid (SpI w (wx.setCell ⟨g, q, none⟩ (.int .u8 238)) N gr cur ys k) := HJ.out.putB hgN hgb
            clear hbk hsz hcs hva hgN hgb hgs hu8
            go_wp2_with fail
            go_roundw
            case rel => exact ⟨q + 1, by go_num, by omega, HJ2⟩
            case measure => simp [intOf]; omega
          · have HNX := Lib.hid (HJ.out.next HGR.out)
            have f0 := hbk.free
            have hs5 : k * 5 + 4 < cs.size := by have := HCU4.out; omega
            obtain ⟨z0, e0⟩ : ∃ u, wx.cell? ⟨gr, k * 5, none⟩ = some u := ⟨_, (hbk.cell _).trans (Array.getElem?_eq_getElem (by omega))⟩
            obtain ⟨z1, e1⟩ : ∃ u, wx.cell? ⟨gr, k * 5 + 1, none⟩ = some u := ⟨_, (hbk.cell _).trans (Array.getElem?_eq_getElem (by omega))⟩
            obtain ⟨z3, e3⟩ : ∃ u, wx.cell? ⟨gr, k * 5 + 3, none⟩ = some u := ⟨_, (hbk.cell _).trans (Array.getElem?_eq_getElem (by omega))⟩
            obtain ⟨z4, e4⟩ : ∃ u, wx.cell? ⟨gr, k * 5 + 4, none⟩ = some u := ⟨_, (hbk.cell _).trans (Array.getElem?_eq_getElem (by omega))⟩
            have g0 := f0 (k * 5)
            have g1 := f0 (k * 5 + 1)
            have g2 := f0 (k * 5 + 2)
            have g3 := f0 (k * 5 + 3)
            have g4 := f0 (k * 5 + 4)
            clear hbk hsz hcs f0 hs5
            go_wp2_with fail
            go_roundw
            case rel => exact ⟨k + 1, by go_num, by omega, HNX⟩
            case measure => simp [intOf]; omega
      · go_wp2_with fail
        go_end0
        exact ⟨⟨_, rfl⟩, HI.out.fr⟩
end Go.Proofs.Ytkdcacajacndmaa

namespace Go.Proofs.Ytkdcacajacndmaa
open Go.RowKit
theorem low_bits (k : Int) (m : Nat) (hm : m ≤ 65535) : ∃ q : Nat, bits .and .i64 k (m : Int) = (q : Int) ∧ q ≤ m := by
  have e : (BitVec.ofInt 64 (m : Int)).toNat = m := by rw [BitVec.ofInt_natCast, BitVec.toNat_ofNat]; omega
  have hq : (BitVec.ofInt 64 k &&& BitVec.ofInt 64 (m : Int)).toNat ≤ m := by
    rw [BitVec.toNat_and]
    have := Nat.and_le_right (n := (BitVec.ofInt 64 k).toNat) (m := (BitVec.ofInt 64 (m : Int)).toNat)
    omega
  refine ⟨(BitVec.ofInt 64 k &&& BitVec.ofInt 64 (m : Int)).toNat, ?_, hq⟩
  show IntKind.i64.wrap (((BitVec.ofInt 64 k &&& BitVec.ofInt 64 (m : Int)).toNat : Nat) : Int) = _
  generalize (BitVec.ofInt 64 k &&& BitVec.ofInt 64 (m : Int)).toNat = q at *
  exact IntWalk.i64_in _ (by omega)
end Go.Proofs.Ytkdcacajacndmaa

namespace Go.Proofs.Ytkdcacajacndmaa
open Go.RowKit
def sameRec (r s : Rec) : Bool := r.has == s.has && r.val == s.val && r.home == s.home && r.count == s.count
def sameRs : List Rw → List Rw → Bool
  | [], [] => true
  | x :: xs, y :: ys => (x.1 == y.1 && sameRec x.2 y.2) && sameRs xs ys
  | _, _ => false
theorem sameRec_iff (r s : Rec) : sameRec r s = true ↔ r = s := by
  obtain ⟨a, b, c, d⟩ := r
  obtain ⟨a', b', c', d'⟩ := s
  unfold sameRec
  simp only [Bool.and_eq_true, beq_iff_eq, Rec.mk.injEq, and_assoc]
theorem sameRs_iff : ∀ rs ts : List Rw, sameRs rs ts = true ↔ rs = ts
  | [], [] => by simp [sameRs]
  | [], _ :: _ => by simp [sameRs]
  | _ :: _, [] => by simp [sameRs]
  | (a, r) :: xs, (b, s) :: ys => by
    unfold sameRs
    rw [Bool.and_eq_true, Bool.and_eq_true, sameRs_iff xs ys, sameRec_iff, beq_iff_eq, List.cons.injEq, Prod.mk.injEq]
theorem sameRs_len {rs ts : List Rw} (h : rs.length ≠ ts.length) : sameRs rs ts = false := by
  cases e : sameRs rs ts with
  | false => rfl
  | true => exact absurd (congrArg List.length ((sameRs_iff rs ts).1 e)) h
theorem sameRs_at {rs ts : List Rw} {k : Nat} {x y : Rw} (hx : rs[k]? = some x) (hy : ts[k]? = some y) : sameRs (rs.drop k) (ts.drop k) = ((x.1 == y.1 && sameRec x.2 y.2) && sameRs (rs.drop (k + 1)) (ts.drop (k + 1))) := by
  obtain ⟨h1, e1⟩ := List.getElem?_eq_some_iff.1 hx
  obtain ⟨h2, e2⟩ := List.getElem?_eq_some_iff.1 hy
  rw [List.drop_eq_getElem_cons h1, List.drop_eq_getElem_cons h2, e1, e2]
  rfl
theorem str_beq (a b : Bs) : ((bstr a).toList == (bstr b).toList) = (a == b) := by rw [bstr_toList, bstr_toList]
set_option maxRecDepth 100000 in
set_option maxHeartbeats 4000000 in
theorem samerec_any [Ex] (w : World) (u v : VaR) (r s : Rec) (hu : Reads w u r) (hv : Reads w v s) :
    Calls Try.prog 15 #[vaR u, vaR v] w fun e w' => e = .returned (.bool (sameRec r s)) ∧ Fr NoBlk w w' := by
  obtain ⟨uh, ua, un, uc, um, ut⟩ := u
  obtain ⟨vh, va, vn, vc, vm, vt⟩ := v
  obtain ⟨rh, rv, rm, rt⟩ := r
  obtain ⟨sh, sv, sm, st⟩ := s
  obtain rfl : uh = rh := hu.has
  obtain rfl : vh = sh := hv.has
  obtain rfl : um = rm := hu.home
  obtain rfl : vm = sm := hv.home
  obtain rfl : ut = rt := hu.count
  obtain rfl : vt = st := hv.count
  obtain ⟨p, hp⟩ : ∃ p, p = w.heap.size := ⟨_, rfl⟩
  obtain ⟨w1, hw1⟩ : ∃ W, W = (w.alloc (.cells #[.bool uh, .slice ua un uc, .int .i64 um, .int .u64 (ut : Int)] 38)).alloc (.cells #[.bool vh, .slice va vn vc, .int .i64 vm, .int .u64 (vt : Int)] 38) := ⟨_, rfl⟩
  have hf1 : Fr NoBlk w w1 := by rw [hw1]; exact ((Fr.refl _ _).alloc _).alloc _
  have HP1 : Hid (Bk w1 p 38 #[.bool uh, .slice ua un uc, .int .i64 um, .int .u64 (ut : Int)]) := by show Bk _ _ _ _; rw [hw1, hp]; exact (Bk.new _ _ _).alloc _
  have HQ1 : Hid (Bk w1 (p + 1) 38 #[.bool vh, .slice va vn vc, .int .i64 vm, .int .u64 (vt : Int)]) := by show Bk _ _ _ _; rw [hw1, hp]; have h := Bk.new (w.alloc (.cells #[.bool uh, .slice ua un uc, .int .i64 um, .int .u64 (ut : Int)] 38)) 38 #[.bool vh, .slice va vn vc, .int .i64 vm, .int .u64 (vt : Int)]; rw [World.size_alloc] at h; exact h
  have q1 := strBs w1 ua un uc rv hu.len (hu.rd.nofr hf1)
  have q2 := strBs w1 va vn vc sv hv.len (hv.rd.nofr hf1)
  have HF1 := Lib.hid hf1
  have HW1 := Lib.hid hw1
  have HP := Lib.hid hp
  obtain ⟨x0, h0⟩ : ∃ x, (uh == vh) = x := ⟨_, rfl⟩
  obtain ⟨x1, h1⟩ : ∃ x, ((bstr rv).toList == (bstr sv).toList) = x := ⟨_, rfl⟩
  obtain ⟨x2, h2⟩ : ∃ x, (um == vm) = x := ⟨_, rfl⟩
  obtain ⟨x3, h3⟩ : ∃ x, ((ut : Int) == (vt : Int)) = x := ⟨_, rfl⟩
  have HB : Hid (sameRec ⟨uh, rv, um, ut⟩ ⟨vh, sv, vm, vt⟩ = (x0 && x1 && x2 && x3)) := by
    show _ = _
    rw [← h0, ← h1, ← h2, ← h3, str_beq]
    have e : ((ut : Int) == (vt : Int)) = (ut == vt) := by
      rw [Bool.eq_iff_iff, beq_iff_eq, beq_iff_eq]
      omega
    rw [e]
    rfl
  clear hu hv hf1 hw1 hp
  unfold vaR
  go_enter Try.func15, Try.ntmps15
  go_upto_region 1 with fail
  rw [← HW1.out, ← HP.out]
  clear HW1 HP
  have a0 : w1.cell? ⟨p, 0, none⟩ = some (.bool uh) := HP1.out.cell 0
  have a1 : w1.cell? ⟨p, 1, none⟩ = some (.slice ua un uc) := HP1.out.cell 1
  have a2 : w1.cell? ⟨p, 2, none⟩ = some (.int .i64 um) := HP1.out.cell 2
  have a3 : w1.cell? ⟨p, 3, none⟩ = some (.int .u64 (ut : Int)) := HP1.out.cell 3
  have b0 : w1.cell? ⟨p + 1, 0, none⟩ = some (.bool vh) := HQ1.out.cell 0
  have b1 : w1.cell? ⟨p + 1, 1, none⟩ = some (.slice va vn vc) := HQ1.out.cell 1
  have b2 : w1.cell? ⟨p + 1, 2, none⟩ = some (.int .i64 vm) := HQ1.out.cell 2
  have b3 : w1.cell? ⟨p + 1, 3, none⟩ = some (.int .u64 (vt : Int)) := HQ1.out.cell 3
  cases x0
  · go_wp2_with fail
    go_ret
    exact ⟨by rw [HB.out]; rfl, HF1.out⟩
  cases x1
  · go_wp2_with fail
    go_ret
    exact ⟨by rw [HB.out]; rfl, HF1.out⟩
  cases x2
  · go_wp2_with fail
    go_ret
    exact ⟨by rw [HB.out]; rfl, HF1.out⟩
  cases x3
  · go_wp2_with fail
    go_ret
    exact ⟨by rw [HB.out]; rfl, HF1.out⟩
  go_wp2_with fail
  go_ret
  exact ⟨by rw [HB.out]; rfl, HF1.out⟩
set_option maxRecDepth 100000 in
set_option maxHeartbeats 4000000 in
theorem same_any [Ex] (w : World) (A : Option Addr) (c : Nat) (ys : List ItR) (B : Option Addr) (d : Nat) (us : List ItR) (rs ts : List Rw) (hA : Rd w A (itsR ys)) (hB : Rd w B (itsR us)) (hy : Told w ys rs) (hu : Told w us ts) (hl : rs.length ≤ 100000) :
    Calls Try.prog 19 #[.slice A ys.length c, .slice B us.length d] w fun e w' => e = .returned (.bool (sameRs rs ts)) ∧ Fr NoBlk w w' := by
  obtain ⟨N, hN⟩ : ∃ N, N = rs.length := ⟨_, rfl⟩
  obtain ⟨M, hM⟩ : ∃ M, M = ts.length := ⟨_, rfl⟩
  have HN := Lib.hid (And.intro hN hM)
  rw [hy.1, hu.1, ← hN, ← hM]
  have hnn : N ≤ 100000 := by rw [hN]; exact hl
  by_cases hNM : N = M
  rotate_left
  · have HZ : Hid (sameRs rs ts = false) := sameRs_len (by rw [← hN, ← hM]; exact hNM)
    have h0 : ((N : Int) == (M : Int)) = false := beq_eq_false_iff_ne.2 (by omega)
    clear hA hB hy hu hl hN hM
    go_enter Try.func19, Try.ntmps19
    go_wp2_with fail
    go_ret
    exact ⟨by rw [HZ.out]; rfl, Fr.refl _ _⟩
  have HM : Hid (M = ts.length) := hM
  subst hNM
  have H := Lib.hid (And.intro hA (And.intro hB (And.intro hy hu)))
  clear hA hB hy hu hl hN hM
  have HN : Hid (N = rs.length) := HN.out.1
  go_enter Try.func19, Try.ntmps19
  go_wp2_with fail
  go_loopw [5] (fun z wr => ∃ k : Nat, z = .int .i64 (k : Int) ∧ k ≤ N ∧ Hid (Fr NoBlk w wr ∧ sameRs rs ts = sameRs (rs.drop k) (ts.drop k))) (fun z _ => N - (intOf z).toNat)
  case atStart => exact ⟨0, rfl, Nat.zero_le _, Fr.refl _ _, rfl⟩
  case round =>
    obtain ⟨k, rfl, hk, HF⟩ := hrel
    have hw2 : IntKind.i64.wrap ((k : Int) + 1) = ((k + 1 : Nat) : Int) := by rw [IntWalk.i64_in _ (by omega)]; omega
    by_cases hlt : k < N
    · obtain ⟨y, hy⟩ : ∃ y, ys[k]? = some y := ⟨_, List.getElem?_eq_getElem (by have := H.out.2.2.1.1; have := HN.out; omega)⟩
      obtain ⟨u, hu⟩ : ∃ u, us[k]? = some u := ⟨_, List.getElem?_eq_getElem (by have := H.out.2.2.2.1; have := HM.out; omega)⟩
      obtain ⟨r, hr⟩ : ∃ r, rs[k]? = some r := ⟨_, List.getElem?_eq_getElem (by have := HN.out; omega)⟩
      obtain ⟨s, hs⟩ : ∃ s, ts[k]? = some s := ⟨_, List.getElem?_eq_getElem (by have := HM.out; omega)⟩
      obtain ⟨b, o, hAb, d0, d1, d2, d3, d4⟩ := (H.out.1.nofr HF.out.1).itR hy
      obtain ⟨b2, o2, hBb, g0, g1, g2, g3, g4⟩ := (H.out.2.1.nofr HF.out.1).itR hu
      subst hAb hBb
      have h1 := H.out.2.2.1.2 k y r hy hr
      have h2 := H.out.2.2.2.2 k u s hu hs
      have hat := sameRs_at hr hs
      obtain ⟨yk, yv⟩ := y
      obtain ⟨uk, uv⟩ := u
      obtain ⟨rk, rr⟩ := r
      obtain ⟨sk, sr⟩ := s
      obtain rfl : yk = rk := h1.1
      obtain rfl : uk = sk := h2.1
      dsimp only at d0 d1 d2 d3 d4 g0 g1 g2 g3 g4 hat
      obtain ⟨xk, hxk⟩ : ∃ x, (yk == uk) = x := ⟨_, rfl⟩
      obtain ⟨xr, hxr⟩ : ∃ x, sameRec rr sr = x := ⟨_, rfl⟩
      have HSR : Hid (∀ V, Fr NoBlk wr V → Calls Try.prog 15 #[.agg #[.bool yv.has, .slice yv.va yv.vn yv.vc, .int .i64 yv.home, .int .u64 (yv.count : Int)], .agg #[.bool uv.has, .slice uv.va uv.vn uv.vc, .int .i64 uv.home, .int .u64 (uv.count : Int)]] V fun e V' => e = .returned (.bool xr) ∧ Fr NoBlk V V') := fun V hV => by
        rw [← hxr]
        exact samerec_any V yv uv rr sr (h1.2.nofr (HF.out.1.trans hV)) (h2.2.nofr (HF.out.1.trans hV))
      rw [hxk, hxr] at hat
      have HAT : Hid (sameRs rs ts = ((xk && xr) && sameRs (rs.drop (k + 1)) (ts.drop (k + 1)))) := HF.out.2.trans hat
      have hbl : b < wr.heap.size := by
        unfold World.cell? at d0
        split at d0
        · rename_i h9
          exact (Array.getElem?_eq_some_iff.1 (by assumption)).1
        · cases d0
      have hbl2 : b2 < wr.heap.size := by
        unfold World.cell? at g0
        split at g0
        · rename_i h9
          exact (Array.getElem?_eq_some_iff.1 (by assumption)).1
        · cases g0
      have HSK : Hid (∀ w', Fr NoBlk wr w' → w'.cell? ⟨b, o + k * 5, none⟩ = some (.string (bstr yk)) ∧ w'.cell? ⟨b, o + k * 5 + 1, none⟩ = some (.bool yv.has) ∧ w'.cell? ⟨b, o + k * 5 + 2, none⟩ = some (.slice yv.va yv.vn yv.vc) ∧ w'.cell? ⟨b, o + k * 5 + 3, none⟩ = some (.int .i64 yv.home) ∧ w'.cell? ⟨b, o + k * 5 + 4, none⟩ = some (.int .u64 (yv.count : Int)) ∧
          w'.cell? ⟨b2, o2 + k * 5, none⟩ = some (.string (bstr uk)) ∧ w'.cell? ⟨b2, o2 + k * 5 + 1, none⟩ = some (.bool uv.has) ∧ w'.cell? ⟨b2, o2 + k * 5 + 2, none⟩ = some (.slice uv.va uv.vn uv.vc) ∧ w'.cell? ⟨b2, o2 + k * 5 + 3, none⟩ = some (.int .i64 uv.home) ∧ w'.cell? ⟨b2, o2 + k * 5 + 4, none⟩ = some (.int .u64 (uv.count : Int))) := fun w' hw =>
        have hc : ∀ j, w'.cell? ⟨b, j, none⟩ = wr.cell? ⟨b, j, none⟩ := fun j => hw.cell (p := ⟨b, j, none⟩) hbl fun e => e
        have hc2 : ∀ j, w'.cell? ⟨b2, j, none⟩ = wr.cell? ⟨b2, j, none⟩ := fun j => hw.cell (p := ⟨b2, j, none⟩) hbl2 fun e => e
        ⟨(hc _).trans d0, (hc _).trans d1, (hc _).trans d2, (hc _).trans d3, (hc _).trans d4, (hc2 _).trans g0, (hc2 _).trans g1, (hc2 _).trans g2, (hc2 _).trans g3, (hc2 _).trans g4⟩
      have hqq : ((bstr yk).toList == (bstr uk).toList) = xk := by rw [str_beq]; exact hxk
      clear hy hu hr hs h1 h2 d0 d1 d2 d3 d4 g0 g1 g2 g3 g4 hbl hbl2 hat hxk hxr
      cases xk with
      | false =>
        have HZ : Hid (sameRs rs ts = false) := by rw [HAT.out]; rfl
        go_wp2_with fail
        refine wp_region_held_drew (S := fun w' => Fr NoBlk wr w') (by kernel_rfl) ((Fr.refl _ _).drew) (fun hHeld => ?_)
        refine wpAnyH_take (i := 0) (oi := ⟨some 17, _, _, _, _, _⟩) (v := ?_) rfl (by kernel_rfl) (by kernel_rfl) (by kernel_rfl) (fun _ _ _ h => h) (Or.inl ⟨by rfl, ?_⟩) (by assumption) ?_
        rotate_left 1
        · (intro w hSw; (try dsimp only at hSw); obtain ⟨k0, k1, k2, k3, k4, j0, j1, j2, j3, j4⟩ := HSK.out _ hSw; go_simp) <;> (with_reducible rfl)
        try simp only [Act.put, List.setIfInBounds_toArray, List.set_cons_zero, List.set_cons_succ]
        refine wpAnyH_take (i := 1) (oi := ⟨some 18, _, _, _, _, _⟩) (v := ?_) rfl (by kernel_rfl) (by kernel_rfl) (by kernel_rfl) (fun _ _ _ h => h) (Or.inl ⟨by rfl, ?_⟩) (by assumption) ?_
        rotate_left 1
        · (intro w hSw; (try dsimp only at hSw); obtain ⟨k0, k1, k2, k3, k4, j0, j1, j2, j3, j4⟩ := HSK.out _ hSw; go_simp) <;> (with_reducible rfl)
        try simp only [Act.put, List.setIfInBounds_toArray, List.set_cons_zero, List.set_cons_succ]
        refine wpAnyH_take (i := 2) (oi := ⟨some 19, _, _, _, _, _⟩) (v := ?_) rfl (by kernel_rfl) (by kernel_rfl) (by kernel_rfl) (fun _ _ _ h => h) (Or.inl ⟨by rfl, ?_⟩) (by assumption) ?_
        rotate_left 1
        · (intro w hSw; (try dsimp only at hSw); obtain ⟨k0, k1, k2, k3, k4, j0, j1, j2, j3, j4⟩ := HSK.out _ hSw; go_simp) <;> (with_reducible rfl)
        try simp only [Act.put, List.setIfInBounds_toArray, List.set_cons_zero, List.set_cons_succ]
        refine wpAnyH_take (i := 3) (oi := ⟨some 20, _, _, _, _, _⟩) (v := ?_) rfl (by kernel_rfl) (by kernel_rfl) (by kernel_rfl) (fun _ _ _ h => h) (Or.inl ⟨by rfl, ?_⟩) (by assumption) ?_
        rotate_left 1
        · (intro w hSw; (try dsimp only at hSw); obtain ⟨k0, k1, k2, k3, k4, j0, j1, j2, j3, j4⟩ := HSK.out _ hSw; go_simp) <;> (with_reducible rfl)
        try simp only [Act.put, List.setIfInBounds_toArray, List.set_cons_zero, List.set_cons_succ]
        refine wpAnyH_take (i := 4) (oi := ⟨some 21, _, _, _, _, _⟩) (v := ?_) rfl (by kernel_rfl) (by kernel_rfl) (by kernel_rfl) (fun _ _ _ h => h) (Or.inl ⟨by rfl, ?_⟩) (by assumption) ?_
        rotate_left 1
        · (intro w hSw; (try dsimp only at hSw); obtain ⟨k0, k1, k2, k3, k4, j0, j1, j2, j3, j4⟩ := HSK.out _ hSw; go_simp) <;> (with_reducible rfl)
        try simp only [Act.put, List.setIfInBounds_toArray, List.set_cons_zero, List.set_cons_succ]
        refine wpAnyH_take (i := 5) (oi := ⟨some 22, _, _, _, _, _⟩) (v := ?_) rfl (by kernel_rfl) (by kernel_rfl) (by kernel_rfl) (fun _ _ _ h => h) (Or.inl ⟨by rfl, ?_⟩) (by assumption) ?_
        rotate_left 1
        · (intro w hSw; (try dsimp only at hSw); obtain ⟨k0, k1, k2, k3, k4, j0, j1, j2, j3, j4⟩ := HSK.out _ hSw; go_simp) <;> (with_reducible rfl)
        try simp only [Act.put, List.setIfInBounds_toArray, List.set_cons_zero, List.set_cons_succ]
        refine wpAnyH_take (i := 6) (oi := ⟨some 23, _, _, _, _, _⟩) (v := ?_) rfl (by kernel_rfl) (by kernel_rfl) (by kernel_rfl) (fun _ _ _ h => h) (Or.inl ⟨by rfl, ?_⟩) (by assumption) ?_
        rotate_left 1
        · (intro w hSw; (try dsimp only at hSw); obtain ⟨k0, k1, k2, k3, k4, j0, j1, j2, j3, j4⟩ := HSK.out _ hSw; go_simp) <;> (with_reducible rfl)
        try simp only [Act.put, List.setIfInBounds_toArray, List.set_cons_zero, List.set_cons_succ]
        refine wpAnyH_take (i := 7) (oi := ⟨some 24, _, _, _, _, _⟩) (v := ?_) rfl (by kernel_rfl) (by kernel_rfl) (by kernel_rfl) (fun _ _ _ h => h) (Or.inl ⟨by rfl, ?_⟩) (by assumption) ?_
        rotate_left 1
        · (intro w hSw; (try dsimp only at hSw); obtain ⟨k0, k1, k2, k3, k4, j0, j1, j2, j3, j4⟩ := HSK.out _ hSw; go_simp) <;> (with_reducible rfl)
        try simp only [Act.put, List.setIfInBounds_toArray, List.set_cons_zero, List.set_cons_succ]
        refine wpAnyH_take (i := 8) (oi := ⟨some 25, _, _, _, _, _⟩) (v := ?_) rfl (by kernel_rfl) (by kernel_rfl) (by kernel_rfl) (fun _ _ _ h => h) (Or.inl ⟨by rfl, ?_⟩) (by assumption) ?_
        rotate_left 1
        · (intro w hSw; (try dsimp only at hSw); obtain ⟨k0, k1, k2, k3, k4, j0, j1, j2, j3, j4⟩ := HSK.out _ hSw; go_simp) <;> (with_reducible rfl)
        try simp only [Act.put, List.setIfInBounds_toArray, List.set_cons_zero, List.set_cons_succ]
        refine wpAnyH_take (i := 9) (oi := ⟨some 26, _, _, _, _, _⟩) (v := ?_) rfl (by kernel_rfl) (by kernel_rfl) (by kernel_rfl) (fun _ _ _ h => h) (Or.inl ⟨by rfl, ?_⟩) (by assumption) ?_
        rotate_left 1
        · (intro w hSw; (try dsimp only at hSw); obtain ⟨k0, k1, k2, k3, k4, j0, j1, j2, j3, j4⟩ := HSK.out _ hSw; go_simp) <;> (with_reducible rfl)
        try simp only [Act.put, List.setIfInBounds_toArray, List.set_cons_zero, List.set_cons_succ]
        refine wpAnyH_take (i := 10) (oi := ⟨some 27, _, _, _, _, _⟩) (v := ?_) rfl (by kernel_rfl) (by kernel_rfl) (by kernel_rfl) (fun _ _ _ h => h) (Or.inl ⟨by rfl, ?_⟩) (by assumption) ?_
        rotate_left 1
        · (intro w hSw; (try dsimp only at hSw); obtain ⟨k0, k1, k2, k3, k4, j0, j1, j2, j3, j4⟩ := HSK.out _ hSw; go_simp) <;> (with_reducible rfl)
        try simp only [Act.put, List.setIfInBounds_toArray, List.set_cons_zero, List.set_cons_succ]
        refine wpAnyH_take (i := 11) (oi := ⟨some 28, _, _, _, _, _⟩) (v := ?_) rfl (by kernel_rfl) (by kernel_rfl) (by kernel_rfl) (fun _ _ _ h => h) (Or.inl ⟨by rfl, ?_⟩) (by assumption) ?_
        rotate_left 1
        · (intro w hSw; (try dsimp only at hSw); obtain ⟨k0, k1, k2, k3, k4, j0, j1, j2, j3, j4⟩ := HSK.out _ hSw; go_simp) <;> (with_reducible rfl)
        try simp only [Act.put, List.setIfInBounds_toArray, List.set_cons_zero, List.set_cons_succ]
        refine wpAnyH_take (i := 12) (oi := ⟨some 29, _, _, _, _, _⟩) (v := undef) rfl (by kernel_rfl) (by kernel_rfl) (by kernel_rfl) (fun _ _ _ h => h) (Or.inr ⟨by rfl, rfl⟩) (by assumption) ?_
        try simp only [Act.put, List.setIfInBounds_toArray, List.set_cons_zero, List.set_cons_succ]
        refine wpAnyH_take (i := 13) (oi := ⟨some 30, _, _, _, _, _⟩) (v := undef) rfl (by kernel_rfl) (by kernel_rfl) (by kernel_rfl) (fun _ _ _ h => h) (Or.inr ⟨by rfl, rfl⟩) (by assumption) ?_
        try simp only [Act.put, List.setIfInBounds_toArray, List.set_cons_zero, List.set_cons_succ]
        refine wpAnyH_take (i := 14) (oi := ⟨some 31, _, _, _, _, _⟩) (v := undef) rfl (by kernel_rfl) (by kernel_rfl) (by kernel_rfl) (fun _ _ _ h => h) (Or.inr ⟨by rfl, rfl⟩) (by assumption) ?_
        try simp only [Act.put, List.setIfInBounds_toArray, List.set_cons_zero, List.set_cons_succ]
        refine wpAnyH_take (i := 15) (oi := ⟨some 32, _, _, _, _, _⟩) (v := undef) rfl (by kernel_rfl) (by kernel_rfl) (by kernel_rfl) (fun _ _ _ h => h) (Or.inr ⟨by rfl, rfl⟩) (by assumption) ?_
        try simp only [Act.put, List.setIfInBounds_toArray, List.set_cons_zero, List.set_cons_succ]
        refine wpAnyH_take (i := 16) (oi := ⟨some 33, _, _, _, _, _⟩) (v := undef) rfl (by kernel_rfl) (by kernel_rfl) (by kernel_rfl) (fun _ _ _ h => h) (Or.inr ⟨by rfl, rfl⟩) (by assumption) ?_
        try simp only [Act.put, List.setIfInBounds_toArray, List.set_cons_zero, List.set_cons_succ]
        refine wpAnyH_take (i := 17) (oi := ⟨some 34, _, _, _, _, _⟩) (v := undef) rfl (by kernel_rfl) (by kernel_rfl) (by kernel_rfl) (fun _ _ _ h => h) (Or.inr ⟨by rfl, rfl⟩) (by assumption) ?_
        try simp only [Act.put, List.setIfInBounds_toArray, List.set_cons_zero, List.set_cons_succ]
        refine wpAnyH_take (i := 18) (oi := ⟨some 35, _, _, _, _, _⟩) (v := undef) rfl (by kernel_rfl) (by kernel_rfl) (by kernel_rfl) (fun _ _ _ h => h) (Or.inr ⟨by rfl, rfl⟩) (by assumption) ?_
        try simp only [Act.put, List.setIfInBounds_toArray, List.set_cons_zero, List.set_cons_succ]
        refine wpAnyH_take (i := 19) (oi := ⟨some 36, _, _, _, _, _⟩) (v := undef) rfl (by kernel_rfl) (by kernel_rfl) (by kernel_rfl) (fun _ _ _ h => h) (Or.inr ⟨by rfl, rfl⟩) (by assumption) ?_
        try simp only [Act.put, List.setIfInBounds_toArray, List.set_cons_zero, List.set_cons_succ]
        refine wpAnyH_take (i := 20) (oi := ⟨some 37, _, _, _, _, _⟩) (v := undef) rfl (by kernel_rfl) (by kernel_rfl) (by kernel_rfl) (fun _ _ _ h => h) (Or.inr ⟨by rfl, rfl⟩) (by assumption) ?_
        try simp only [Act.put, List.setIfInBounds_toArray, List.set_cons_zero, List.set_cons_succ]
        refine wpAnyH_take (i := 21) (oi := ⟨some 38, _, _, _, _, _⟩) (v := undef) rfl (by kernel_rfl) (by kernel_rfl) (by kernel_rfl) (fun _ _ _ h => h) (Or.inr ⟨by rfl, rfl⟩) (by assumption) ?_
        try simp only [Act.put, List.setIfInBounds_toArray, List.set_cons_zero, List.set_cons_succ]
        refine wpAnyH_take (i := 22) (oi := ⟨some 39, _, _, _, _, _⟩) (v := undef) rfl (by kernel_rfl) (by kernel_rfl) (by kernel_rfl) (fun _ _ _ h => h) (Or.inr ⟨by rfl, rfl⟩) (by assumption) ?_
        try simp only [Act.put, List.setIfInBounds_toArray, List.set_cons_zero, List.set_cons_succ]
        refine wpAnyH_take (i := 23) (oi := ⟨some 40, _, _, _, _, _⟩) (v := undef) rfl (by kernel_rfl) (by kernel_rfl) (by kernel_rfl) (fun _ _ _ h => h) (Or.inr ⟨by rfl, rfl⟩) (by assumption) ?_
        try simp only [Act.put, List.setIfInBounds_toArray, List.set_cons_zero, List.set_cons_succ]
        refine wpAnyH_take (i := 24) (oi := ⟨some 41, _, _, _, _, _⟩) (v := ?_) rfl (by kernel_rfl) (by kernel_rfl) (by kernel_rfl) (fun _ _ _ h => h) (Or.inl ⟨by rfl, ?_⟩) (by assumption) ?_
        rotate_left 1
        · (intro w hSw; (try dsimp only at hSw); obtain ⟨k0, k1, k2, k3, k4, j0, j1, j2, j3, j4⟩ := HSK.out _ hSw; go_simp) <;> (with_reducible rfl)
        try simp only [Act.put, List.setIfInBounds_toArray, List.set_cons_zero, List.set_cons_succ]
        refine wpAnyH_done (by kernel_rfl) ?_ _
        go_wp2_with fail
        go_ret
        exact ⟨by rw [HZ.out]; rfl, HF.out.1.drew⟩
      | true =>
        go_wp2_with fail
        refine wp_region_held_drew (S := fun w' => Fr NoBlk wr w') (by kernel_rfl) ((Fr.refl _ _).drew) (fun hHeld => ?_)
        refine wpAnyH_take (i := 0) (oi := ⟨some 17, _, _, _, _, _⟩) (v := ?_) rfl (by kernel_rfl) (by kernel_rfl) (by kernel_rfl) (fun _ _ _ h => h) (Or.inl ⟨by rfl, ?_⟩) (by assumption) ?_
        rotate_left 1
        · (intro w hSw; (try dsimp only at hSw); obtain ⟨k0, k1, k2, k3, k4, j0, j1, j2, j3, j4⟩ := HSK.out _ hSw; go_simp) <;> (with_reducible rfl)
        try simp only [Act.put, List.setIfInBounds_toArray, List.set_cons_zero, List.set_cons_succ]
        refine wpAnyH_take (i := 1) (oi := ⟨some 18, _, _, _, _, _⟩) (v := ?_) rfl (by kernel_rfl) (by kernel_rfl) (by kernel_rfl) (fun _ _ _ h => h) (Or.inl ⟨by rfl, ?_⟩) (by assumption) ?_
        rotate_left 1
        · (intro w hSw; (try dsimp only at hSw); obtain ⟨k0, k1, k2, k3, k4, j0, j1, j2, j3, j4⟩ := HSK.out _ hSw; go_simp) <;> (with_reducible rfl)
        try simp only [Act.put, List.setIfInBounds_toArray, List.set_cons_zero, List.set_cons_succ]
        refine wpAnyH_take (i := 2) (oi := ⟨some 19, _, _, _, _, _⟩) (v := ?_) rfl (by kernel_rfl) (by kernel_rfl) (by kernel_rfl) (fun _ _ _ h => h) (Or.inl ⟨by rfl, ?_⟩) (by assumption) ?_
        rotate_left 1
        · (intro w hSw; (try dsimp only at hSw); obtain ⟨k0, k1, k2, k3, k4, j0, j1, j2, j3, j4⟩ := HSK.out _ hSw; go_simp) <;> (with_reducible rfl)
        try simp only [Act.put, List.setIfInBounds_toArray, List.set_cons_zero, List.set_cons_succ]
        refine wpAnyH_take (i := 3) (oi := ⟨some 20, _, _, _, _, _⟩) (v := ?_) rfl (by kernel_rfl) (by kernel_rfl) (by kernel_rfl) (fun _ _ _ h => h) (Or.inl ⟨by rfl, ?_⟩) (by assumption) ?_
        rotate_left 1
        · (intro w hSw; (try dsimp only at hSw); obtain ⟨k0, k1, k2, k3, k4, j0, j1, j2, j3, j4⟩ := HSK.out _ hSw; go_simp) <;> (with_reducible rfl)
        try simp only [Act.put, List.setIfInBounds_toArray, List.set_cons_zero, List.set_cons_succ]
        refine wpAnyH_take (i := 4) (oi := ⟨some 21, _, _, _, _, _⟩) (v := ?_) rfl (by kernel_rfl) (by kernel_rfl) (by kernel_rfl) (fun _ _ _ h => h) (Or.inl ⟨by rfl, ?_⟩) (by assumption) ?_
        rotate_left 1
        · (intro w hSw; (try dsimp only at hSw); obtain ⟨k0, k1, k2, k3, k4, j0, j1, j2, j3, j4⟩ := HSK.out _ hSw; go_simp) <;> (with_reducible rfl)
        try simp only [Act.put, List.setIfInBounds_toArray, List.set_cons_zero, List.set_cons_succ]
        refine wpAnyH_take (i := 5) (oi := ⟨some 22, _, _, _, _, _⟩) (v := ?_) rfl (by kernel_rfl) (by kernel_rfl) (by kernel_rfl) (fun _ _ _ h => h) (Or.inl ⟨by rfl, ?_⟩) (by assumption) ?_
        rotate_left 1
        · (intro w hSw; (try dsimp only at hSw); obtain ⟨k0, k1, k2, k3, k4, j0, j1, j2, j3, j4⟩ := HSK.out _ hSw; go_simp) <;> (with_reducible rfl)
        try simp only [Act.put, List.setIfInBounds_toArray, List.set_cons_zero, List.set_cons_succ]
        refine wpAnyH_take (i := 6) (oi := ⟨some 23, _, _, _, _, _⟩) (v := ?_) rfl (by kernel_rfl) (by kernel_rfl) (by kernel_rfl) (fun _ _ _ h => h) (Or.inl ⟨by rfl, ?_⟩) (by assumption) ?_
        rotate_left 1
        · (intro w hSw; (try dsimp only at hSw); obtain ⟨k0, k1, k2, k3, k4, j0, j1, j2, j3, j4⟩ := HSK.out _ hSw; go_simp) <;> (with_reducible rfl)
        try simp only [Act.put, List.setIfInBounds_toArray, List.set_cons_zero, List.set_cons_succ]
        refine wpAnyH_take (i := 7) (oi := ⟨some 24, _, _, _, _, _⟩) (v := ?_) rfl (by kernel_rfl) (by kernel_rfl) (by kernel_rfl) (fun _ _ _ h => h) (Or.inl ⟨by rfl, ?_⟩) (by assumption) ?_
        rotate_left 1
        · (intro w hSw; (try dsimp only at hSw); obtain ⟨k0, k1, k2, k3, k4, j0, j1, j2, j3, j4⟩ := HSK.out _ hSw; go_simp) <;> (with_reducible rfl)
        try simp only [Act.put, List.setIfInBounds_toArray, List.set_cons_zero, List.set_cons_succ]
        refine wpAnyH_take (i := 8) (oi := ⟨some 25, _, _, _, _, _⟩) (v := ?_) rfl (by kernel_rfl) (by kernel_rfl) (by kernel_rfl) (fun _ _ _ h => h) (Or.inl ⟨by rfl, ?_⟩) (by assumption) ?_
        rotate_left 1
        · (intro w hSw; (try dsimp only at hSw); obtain ⟨k0, k1, k2, k3, k4, j0, j1, j2, j3, j4⟩ := HSK.out _ hSw; go_simp) <;> (with_reducible rfl)
        try simp only [Act.put, List.setIfInBounds_toArray, List.set_cons_zero, List.set_cons_succ]
        refine wpAnyH_take (i := 9) (oi := ⟨some 26, _, _, _, _, _⟩) (v := ?_) rfl (by kernel_rfl) (by kernel_rfl) (by kernel_rfl) (fun _ _ _ h => h) (Or.inl ⟨by rfl, ?_⟩) (by assumption) ?_
        rotate_left 1
        · (intro w hSw; (try dsimp only at hSw); obtain ⟨k0, k1, k2, k3, k4, j0, j1, j2, j3, j4⟩ := HSK.out _ hSw; go_simp) <;> (with_reducible rfl)
        try simp only [Act.put, List.setIfInBounds_toArray, List.set_cons_zero, List.set_cons_succ]
        refine wpAnyH_take (i := 10) (oi := ⟨some 27, _, _, _, _, _⟩) (v := ?_) rfl (by kernel_rfl) (by kernel_rfl) (by kernel_rfl) (fun _ _ _ h => h) (Or.inl ⟨by rfl, ?_⟩) (by assumption) ?_
        rotate_left 1
        · (intro w hSw; (try dsimp only at hSw); obtain ⟨k0, k1, k2, k3, k4, j0, j1, j2, j3, j4⟩ := HSK.out _ hSw; go_simp) <;> (with_reducible rfl)
        try simp only [Act.put, List.setIfInBounds_toArray, List.set_cons_zero, List.set_cons_succ]
        refine wpAnyH_take (i := 11) (oi := ⟨some 28, _, _, _, _, _⟩) (v := ?_) rfl (by kernel_rfl) (by kernel_rfl) (by kernel_rfl) (fun _ _ _ h => h) (Or.inl ⟨by rfl, ?_⟩) (by assumption) ?_
        rotate_left 1
        · (intro w hSw; (try dsimp only at hSw); obtain ⟨k0, k1, k2, k3, k4, j0, j1, j2, j3, j4⟩ := HSK.out _ hSw; go_simp) <;> (with_reducible rfl)
        try simp only [Act.put, List.setIfInBounds_toArray, List.set_cons_zero, List.set_cons_succ]
        refine wpAnyH_take (i := 12) (oi := ⟨some 29, _, _, _, _, _⟩) (v := ?_) rfl (by kernel_rfl) (by kernel_rfl) (by kernel_rfl) (fun _ _ _ h => h) (Or.inl ⟨by rfl, ?_⟩) (by assumption) ?_
        rotate_left 1
        · (intro w hSw; (try dsimp only at hSw); obtain ⟨k0, k1, k2, k3, k4, j0, j1, j2, j3, j4⟩ := HSK.out _ hSw; go_simp) <;> (with_reducible rfl)
        try simp only [Act.put, List.setIfInBounds_toArray, List.set_cons_zero, List.set_cons_succ]
        refine wpAnyH_take (i := 13) (oi := ⟨some 30, _, _, _, _, _⟩) (v := ?_) rfl (by kernel_rfl) (by kernel_rfl) (by kernel_rfl) (fun _ _ _ h => h) (Or.inl ⟨by rfl, ?_⟩) (by assumption) ?_
        rotate_left 1
        · (intro w hSw; (try dsimp only at hSw); obtain ⟨k0, k1, k2, k3, k4, j0, j1, j2, j3, j4⟩ := HSK.out _ hSw; go_simp) <;> (with_reducible rfl)
        try simp only [Act.put, List.setIfInBounds_toArray, List.set_cons_zero, List.set_cons_succ]
        refine wpAnyH_take (i := 14) (oi := ⟨some 31, _, _, _, _, _⟩) (v := ?_) rfl (by kernel_rfl) (by kernel_rfl) (by kernel_rfl) (fun _ _ _ h => h) (Or.inl ⟨by rfl, ?_⟩) (by assumption) ?_
        rotate_left 1
        · (intro w hSw; (try dsimp only at hSw); obtain ⟨k0, k1, k2, k3, k4, j0, j1, j2, j3, j4⟩ := HSK.out _ hSw; go_simp) <;> (with_reducible rfl)
        try simp only [Act.put, List.setIfInBounds_toArray, List.set_cons_zero, List.set_cons_succ]
        refine wpAnyH_take (i := 15) (oi := ⟨some 32, _, _, _, _, _⟩) (v := ?_) rfl (by kernel_rfl) (by kernel_rfl) (by kernel_rfl) (fun _ _ _ h => h) (Or.inl ⟨by rfl, ?_⟩) (by assumption) ?_
        rotate_left 1
        · (intro w hSw; (try dsimp only at hSw); obtain ⟨k0, k1, k2, k3, k4, j0, j1, j2, j3, j4⟩ := HSK.out _ hSw; go_simp) <;> (with_reducible rfl)
        try simp only [Act.put, List.setIfInBounds_toArray, List.set_cons_zero, List.set_cons_succ]
        refine wpAnyH_take (i := 16) (oi := ⟨some 33, _, _, _, _, _⟩) (v := ?_) rfl (by kernel_rfl) (by kernel_rfl) (by kernel_rfl) (fun _ _ _ h => h) (Or.inl ⟨by rfl, ?_⟩) (by assumption) ?_
        rotate_left 1
        · (intro w hSw; (try dsimp only at hSw); obtain ⟨k0, k1, k2, k3, k4, j0, j1, j2, j3, j4⟩ := HSK.out _ hSw; go_simp) <;> (with_reducible rfl)
        try simp only [Act.put, List.setIfInBounds_toArray, List.set_cons_zero, List.set_cons_succ]
        refine wpAnyH_take (i := 17) (oi := ⟨some 34, _, _, _, _, _⟩) (v := ?_) rfl (by kernel_rfl) (by kernel_rfl) (by kernel_rfl) (fun _ _ _ h => h) (Or.inl ⟨by rfl, ?_⟩) (by assumption) ?_
        rotate_left 1
        · (intro w hSw; (try dsimp only at hSw); obtain ⟨k0, k1, k2, k3, k4, j0, j1, j2, j3, j4⟩ := HSK.out _ hSw; go_simp) <;> (with_reducible rfl)
        try simp only [Act.put, List.setIfInBounds_toArray, List.set_cons_zero, List.set_cons_succ]
        refine wpAnyH_take (i := 18) (oi := ⟨some 35, _, _, _, _, _⟩) (v := ?_) rfl (by kernel_rfl) (by kernel_rfl) (by kernel_rfl) (fun _ _ _ h => h) (Or.inl ⟨by rfl, ?_⟩) (by assumption) ?_
        rotate_left 1
        · (intro w hSw; (try dsimp only at hSw); obtain ⟨k0, k1, k2, k3, k4, j0, j1, j2, j3, j4⟩ := HSK.out _ hSw; go_simp) <;> (with_reducible rfl)
        try simp only [Act.put, List.setIfInBounds_toArray, List.set_cons_zero, List.set_cons_succ]
        refine wpAnyH_take (i := 19) (oi := ⟨some 36, _, _, _, _, _⟩) (v := ?_) rfl (by kernel_rfl) (by kernel_rfl) (by kernel_rfl) (fun _ _ _ h => h) (Or.inl ⟨by rfl, ?_⟩) (by assumption) ?_
        rotate_left 1
        · (intro w hSw; (try dsimp only at hSw); obtain ⟨k0, k1, k2, k3, k4, j0, j1, j2, j3, j4⟩ := HSK.out _ hSw; go_simp) <;> (with_reducible rfl)
        try simp only [Act.put, List.setIfInBounds_toArray, List.set_cons_zero, List.set_cons_succ]
        refine wpAnyH_take (i := 20) (oi := ⟨some 37, _, _, _, _, _⟩) (v := ?_) rfl (by kernel_rfl) (by kernel_rfl) (by kernel_rfl) (fun _ _ _ h => h) (Or.inl ⟨by rfl, ?_⟩) (by assumption) ?_
        rotate_left 1
        · (intro w hSw; (try dsimp only at hSw); obtain ⟨k0, k1, k2, k3, k4, j0, j1, j2, j3, j4⟩ := HSK.out _ hSw; go_simp) <;> (with_reducible rfl)
        try simp only [Act.put, List.setIfInBounds_toArray, List.set_cons_zero, List.set_cons_succ]
        refine wpAnyH_take (i := 21) (oi := ⟨some 38, _, _, _, _, _⟩) (v := ?_) rfl (by kernel_rfl) (by kernel_rfl) (by kernel_rfl) (fun _ _ _ h => h) (Or.inl ⟨by rfl, ?_⟩) (by assumption) ?_
        rotate_left 1
        · (intro w hSw; (try dsimp only at hSw); obtain ⟨k0, k1, k2, k3, k4, j0, j1, j2, j3, j4⟩ := HSK.out _ hSw; go_simp) <;> (with_reducible rfl)
        try simp only [Act.put, List.setIfInBounds_toArray, List.set_cons_zero, List.set_cons_succ]
        refine wpAnyH_ready (rs := [22]) (by kernel_rfl) (by simp) ?_
        refine AllReadyH.cons (o := ⟨some 39, _, _, _, _, _⟩) rfl (fun K hK => ?_) AllReadyH.nil
        go_simp
        go_at_call 15
        refine (HSR.out _ (by assumption)).mono ?_
        rintro _ wc ⟨rfl, hfc⟩
        have HFC := Lib.hid (Fr.trans (by assumption) hfc)
        clear hfc hHeld
        refine hK.out _ _ ?_ (fun hHeld => ?_)
        · exact HFC.out
        clear hK K
        try simp only [Act.put, List.setIfInBounds_toArray, List.set_cons_zero, List.set_cons_succ]
        refine wpAnyH_take (i := 23) (oi := ⟨some 40, _, _, _, _, _⟩) (v := ?_) rfl (by kernel_rfl) (by kernel_rfl) (by kernel_rfl) (fun _ _ _ h => h) (Or.inl ⟨by rfl, ?_⟩) (by assumption) ?_
        rotate_left 1
        · (intro w hSw; (try dsimp only at hSw); obtain ⟨k0, k1, k2, k3, k4, j0, j1, j2, j3, j4⟩ := HSK.out _ hSw; go_simp) <;> (with_reducible rfl)
        try simp only [Act.put, List.setIfInBounds_toArray, List.set_cons_zero, List.set_cons_succ]
        refine wpAnyH_take (i := 24) (oi := ⟨some 41, _, _, _, _, _⟩) (v := ?_) rfl (by kernel_rfl) (by kernel_rfl) (by kernel_rfl) (fun _ _ _ h => h) (Or.inl ⟨by rfl, ?_⟩) (by assumption) ?_
        rotate_left 1
        · (intro w hSw; (try dsimp only at hSw); obtain ⟨k0, k1, k2, k3, k4, j0, j1, j2, j3, j4⟩ := HSK.out _ hSw; go_simp) <;> (with_reducible rfl)
        try simp only [Act.put, List.setIfInBounds_toArray, List.set_cons_zero, List.set_cons_succ]
        refine wpAnyH_done (by kernel_rfl) ?_ _
        have HFW : Hid (Fr NoBlk w wc) := HF.out.1.trans HFC.out
        cases xr with
        | false =>
          have HZ : Hid (sameRs rs ts = false) := by rw [HAT.out]; rfl
          go_wp2_with fail
          go_ret
          exact ⟨by rw [HZ.out]; rfl, HFW.out⟩
        | true =>
          have HZ : Hid (Fr NoBlk w wc ∧ sameRs rs ts = sameRs (rs.drop (k + 1)) (ts.drop (k + 1))) := ⟨HFW.out, by rw [HAT.out]; rfl⟩
          go_wp2_with fail
          go_roundw
          case rel => exact ⟨k + 1, by go_num, by omega, HZ⟩
          case measure => simp [intOf]; omega
    · have HZ : Hid (sameRs rs ts = true) := by
        show _ = _
        rw [HF.out.2, List.drop_of_length_le (by have := HN.out; omega), List.drop_of_length_le (by have := HM.out; omega)]
        rfl
      go_wp2_with fail
      go_ret
      exact ⟨by rw [HZ.out]; rfl, HF.out.1⟩
end Go.Proofs.Ytkdcacajacndmaa

namespace Go.Proofs.Ytkdcacajacndmaa
open Go.RowKit
/-- what a call on both may turn. -/
def StpP (w w' : World) (O OM O' OM' : Nat → Prop) : Prop := Stp w w' (fun b => O b ∨ OM b) (fun b => O' b ∨ OM' b)
section
variable {w w1 w2 : World} {O OM O1 OM1 O2 OM2 : Nat → Prop}
theorem StpP.fr (h : StpP w w1 O OM O1 OM1) : Fr (fun b => O b ∨ OM b) w w1 := Stp.fr h
theorem StpP.new (h : StpP w w1 O OM O1 OM1) : ∀ b, O1 b ∨ OM1 b → (O b ∨ OM b) ∨ w.heap.size ≤ b := Stp.new h
theorem StpP.nofr (h : StpP w w1 O OM O1 OM1) (hf : Fr NoBlk w1 w2) : StpP w w2 O OM O1 OM1 := ⟨h.fr.step hf fun _ _ e => e.elim, h.new⟩
theorem StpP.refl_ (hf : Fr NoBlk w w1) : StpP w w1 O OM O OM := ⟨hf.mono fun _ _ e => e.elim, fun _ hb => .inl hb⟩
theorem StpP.sp {C : Nat → Prop} (h : StpP w w1 O OM O1 OM1) (hf : Fr C w1 w2) (hC : ∀ b, b < w.heap.size → ¬ C b) : StpP w w2 O OM O1 OM1 := ⟨h.fr.step hf fun i hi e => absurd e (hC i hi), h.new⟩
theorem StpP.st (h : StpP w w1 O OM O1 OM1) (hp : Stp w1 w2 O1 O2) : StpP w w2 O OM O2 OM1 :=
  ⟨h.fr.step hp.fr fun i hi e => (h.new i (.inl e)).elim id fun e2 => by omega,
    fun b hb => hb.elim (fun e => (hp.new b e).elim (fun e => h.new b (.inl e)) fun e => .inr (Nat.le_trans h.fr.size e)) fun e => h.new b (.inr e)⟩
theorem StpP.rst {gm : Nat} (h : StpP w w1 O OM O1 OM1) (hf : Fr (fun b => b = gm) w1 w2) (hg : OM1 gm) (hn : ∀ b, OM2 b → OM1 b ∨ w1.heap.size ≤ b) : StpP w w2 O OM O1 OM2 :=
  ⟨h.fr.step hf fun i hi e => (h.new i (.inr (e ▸ hg))).elim id fun e2 => by omega,
    fun b hb => hb.elim (fun e => h.new b (.inl e)) fun e => (hn b e).elim (fun e => h.new b (.inr e)) fun e => .inr (Nat.le_trans h.fr.size e)⟩
end
/-- what one call leaves. -/
def dstep (n : Nat) (rs : List Rw) (x : Opn) : List Rw :=
  if bits .and .i64 x.kind 7 = 0 then rset rs x.name ⟨false, [], (rget n rs x.name).home, (rget n rs x.name).count⟩
  else if bits .and .i64 x.kind 7 = 1 ∨ bits .and .i64 x.kind 7 = 2 then moveR n rs x.name x.n
  else if bits .and .i64 x.kind 7 = 3 then rs
  else rset rs x.name ⟨true, x.data.2.2, (rget n rs x.name).home, (rget n rs x.name).count⟩
theorem Lim.step {k n : Nat} {rs : List Rw} (h : Lim k rs) (x : Opn) (hs : x.data.2.2.length ≤ 500 ∧ x.name.length ≤ 500) : Lim (k + 1) (dstep n rs x) := by
  unfold dstep
  split
  · exact h.put hs.2 ⟨Nat.zero_le _, Nat.le_succ_of_le (h.get _ _).2⟩
  · split
    · exact h.move hs.2 _
    · split
      · exact h.up
      · exact h.put hs.2 ⟨hs.1, Nat.le_succ_of_le (h.get _ _).2⟩
theorem moveE_low {n k : Nat} {rs : List Rw} (h : Lim k rs) (hk : k ≤ 99999) (key : Bs) (home : Int) : moveE n rs key home = if home < 0 ∨ (n : Int) ≤ home then 1 else 0 := by
  have h1 := (h.get n key).2
  unfold moveE
  rw [if_neg (show ¬ (rget n rs key).count = 18446744073709551615 by omega)]
def DoPost2 (W w : World) (g gm n : Nat) (rs rm : List Rw) (O OM : Nat → Prop) (x : Opn) (e : Ending) (w' : World) : Prop :=
  ∃ b, e = .returned (.bool b) ∧ (rs = rm → b = true) ∧ ∃ O' OM' o, @PairS ⟨o⟩ W w' g gm n (dstep n rs x) (dstep n rm x) O' OM' ∧ StpP w w' O OM O' OM'
set_option maxRecDepth 100000 in
set_option maxHeartbeats 16000000 in
theorem do_two [Ex] (W w : World) (g gm n k : Nat) (rs rm : List Rw) (O OM : Nat → Prop) (h : PairS W w g gm n rs rm O OM) (hl : Lim k rs) (hlm : Lim k rm) (hk : k ≤ 99999) (x : Opn) (hx : Part W x.data) (hs : x.data.2.2.length ≤ 500 ∧ x.name.length ≤ 500) :
    Calls Try.prog 14 #[.pointer (some ⟨g, 0, none⟩), .pointer (some ⟨gm, 0, none⟩), .agg (opa x)] w (DoPost2 W w g gm n rs rm O OM x) := by
  obtain ⟨i1, hi1, hy0, hy1, hy2⟩ := info_parts byteInfo
  obtain ⟨kind, no, name, ⟨va, vc, vb⟩⟩ := x
  obtain ⟨q, hqe, hq7⟩ := low_bits kind 7 (by decide)
  have HQ : Hid (bits .and .i64 kind 7 = (q : Int)) := hqe
  obtain ⟨p, hp⟩ : ∃ p, p = w.heap.size := ⟨_, rfl⟩
  obtain ⟨L, hL⟩ : ∃ L, L = vb.length := ⟨_, rfl⟩
  obtain ⟨w1, hw1⟩ : ∃ w1, w1 = w.alloc (.cells #[.int .i64 kind, .int .i64 no, .string (bstr name), .slice va L vc] 33) := ⟨_, rfl⟩
  have hf1 : Fr NoBlk w w1 := by rw [hw1]; exact (Fr.refl _ _).alloc _
  have HB1 : Hid (Bk w1 p 33 #[.int .i64 kind, .int .i64 no, .string (bstr name), .slice va L vc]) := by show Bk _ _ _ _; rw [hw1, hp]; exact Bk.new _ _ _
  have HP1 : Hid (PairS W w1 g gm n rs rm O OM) := h.nofr hf1
  have HT1 : Hid (StpP w w1 O OM O OM) := StpP.refl_ hf1
  have HPO : Hid (¬ O p) := fun e => by have := h.st.lt e; omega
  have HPM : Hid (p ≠ gm) := fun e => by have := (h.rst.lt h.rst.self).2; omega
  have HPW : Hid (W.heap.size ≤ w1.heap.size) := HP1.out.fr.size
  have HDT : Hid (Rd w1 va (cb vb) ∧ (va = none → vc = 0) ∧ L = vb.length ∧ L ≤ 500) := ⟨hx.1.nofr (h.fr.trans hf1), hx.2, hL, by rw [hL]; exact hs.1⟩
  have HVW : Hid (∀ w', Fr NoBlk W w' → Rd w' va (cb vb)) := fun w' hf => hx.1.nofr hf
  have HKN : Hid (name.length ≤ 1000000000) := by have h1 : name.length ≤ 500 := hs.2; show _ ≤ _; omega
  have HK5 : Hid (name.length ≤ 500) := hs.2
  have HLM := Lib.hid hl
  have HME : Hid (moveE n rm name no = moveE n rs name no) := by show _ = _; rw [moveE_low hl hk, moveE_low hlm hk]
  have HDS : Hid (∀ {w'} o {O' OM' : Nat → Prop} {r1 r2 : List Rw}, ((q = 0 ∧ r1 = rset rs name ⟨false, [], (rget n rs name).home, (rget n rs name).count⟩ ∧ r2 = rset rm name ⟨false, [], (rget n rm name).home, (rget n rm name).count⟩) ∨ ((q = 1 ∨ q = 2) ∧ r1 = moveR n rs name no ∧ r2 = moveR n rm name no) ∨ (q = 3 ∧ r1 = rs ∧ r2 = rm) ∨ ((¬ q = 0 ∧ ¬ q = 1 ∧ ¬ q = 2 ∧ ¬ q = 3) ∧ r1 = rset rs name ⟨true, vb, (rget n rs name).home, (rget n rs name).count⟩ ∧ r2 = rset rm name ⟨true, vb, (rget n rm name).home, (rget n rm name).count⟩)) → @PairS o W w' g gm n r1 r2 O' OM' → @PairS ⟨o.x⟩ W w' g gm n (dstep n rs ⟨kind, no, name, va, vc, vb⟩) (dstep n rm ⟨kind, no, name, va, vc, vb⟩) O' OM') := by
    intro w' o O' OM' r1 r2 hr hp
    have hd : dstep n rs ⟨kind, no, name, va, vc, vb⟩ = r1 ∧ dstep n rm ⟨kind, no, name, va, vc, vb⟩ = r2 := by
      unfold dstep
      dsimp only
      have hqe' : bits .and .i64 kind 7 = (q : Int) := hqe
      rw [hqe']
      rcases hr with ⟨h0, rfl, rfl⟩ | ⟨h0, rfl, rfl⟩ | ⟨h0, rfl, rfl⟩ | ⟨h0, rfl, rfl⟩
      · rw [if_pos (by omega), if_pos (by omega)]; exact ⟨rfl, rfl⟩
      · rw [if_neg (by omega), if_pos (by omega), if_neg (by omega), if_pos (by omega)]; exact ⟨rfl, rfl⟩
      · rw [if_neg (by omega), if_neg (by omega), if_pos (by omega), if_neg (by omega), if_neg (by omega), if_pos (by omega)]; exact ⟨rfl, rfl⟩
      · rw [if_neg (by omega), if_neg (by omega), if_neg (by omega), if_neg (by omega), if_neg (by omega), if_neg (by omega)]; exact ⟨rfl, rfl⟩
    rw [hd.1, hd.2]
    exact hp
  have HLENM : Hid (rm.length ≤ 99999) := by have := hlm.1; show _ ≤ _; omega
  have HLEN : Hid (rs.length ≤ 99999) := by have := hl.1; show _ ≤ _; omega
  have HLEN2 : Hid (rs.length ≤ 100000) := by have := hl.1; show _ ≤ _; omega
  have HW1 := Lib.hid hw1
  have HPP := Lib.hid hp
  have HLL := Lib.hid hL
  unfold opa st sl
  dsimp only
  rw [← hL]
  clear h hl hlm hk hx hs hqe hq7 hp hw1 hf1 hL
  go_enter Try.func14, Try.ntmps14
  go_upto_region 1 with fail
  rw [← HW1.out, ← HPP.out]
  clear HW1 HPP
  have c0 : w1.cell? ⟨p, 0, none⟩ = some (.int .i64 kind) := HB1.out.cell 0
  have c1 : w1.cell? ⟨p, 1, none⟩ = some (.int .i64 no) := HB1.out.cell 1
  have c2 : w1.cell? ⟨p, 2, none⟩ = some (.string (bstr name)) := HB1.out.cell 2
  have c3 : w1.cell? ⟨p, 3, none⟩ = some (.slice va L vc) := HB1.out.cell 3
  by_cases hq : q = 0
  · have h0 : (bits .and .i64 kind 7 == 0) = true := by rw [HQ.out, hq]; rfl
    have hqk : Hid (q = 0) := hq
    clear hq
    go_wp2_with fail
    refine (sdel_any w1 g O n rs HP1.out.st HLEN.out name HKN.out).mono ?_
    rintro e w2 ⟨⟨x2, rfl⟩, O', hs2, hp2⟩
    have HB2 : Hid (Bk w2 p 33 #[.int .i64 kind, .int .i64 no, .string (bstr name), .slice va L vc]) := Bk.fr HB1.out hp2.fr (fun e => HPO.out e)
    have HP2 : Hid (PairS W w2 g gm n (rset rs name ⟨false, [], (rget n rs name).home, (rget n rs name).count⟩) rm O' OM) := HP1.out.stp hs2 hp2
    have HT2 : Hid (StpP w w2 O OM O' OM) := HT1.out.st hp2
    clear hs2 hp2 c2 HP1 HB1 HPO HT1
    have d2 : w2.cell? ⟨p, 2, none⟩ = some (.string (bstr name)) := HB2.out.cell 2
    go_wp2_with fail
    refine (rdel_any w2 W.heap.size gm OM n rm HP2.out.rst HLENM.out name HKN.out).mono ?_
    rintro e w3 ⟨⟨x3, rfl⟩, OM', hs3, hf3, hn3⟩
    have hn3' : ∀ b, OM' b → OM b ∨ w2.heap.size ≤ b := fun b hb => (hn3 b hb).imp (fun e => by rw [e]; exact HP2.out.rst.self) id
    have HP3 : Hid (PairS W w3 g gm n _ _ O' OM') := HP2.out.rstp hs3 hf3 hn3'
    have HT3 : Hid (StpP w w3 O OM O' OM') := HT2.out.rst hf3 HP2.out.rst.self hn3'
    clear hs3 hf3 hn3 hn3' d2 HP2 HB2 HT2
    go_wp2_with fail
    go_ret
    exact ⟨true, rfl, fun _ => rfl, _, _, _, HDS.out _ (Or.inl ⟨hqk.out, rfl, rfl⟩) HP3.out, HT3.out⟩
  by_cases hq1 : q = 1
  · have hq := hq1
    have h0 : (bits .and .i64 kind 7 == 0) = false := by rw [HQ.out, hq]; rfl
    have h1 : (bits .and .i64 kind 7 == 1) = true := by rw [HQ.out, hq]; rfl
    have hqk : Hid (q = 1 ∨ q = 2) := .inl hq
    clear hq hq1
    have HSO : Hid (∀ w' : World, Bk w' p 33 #[.int .i64 kind, .int .i64 no, .string (bstr name), .slice va L vc] → w'.cell? ⟨p, 1, none⟩ = some (.int .i64 no) ∧ w'.cell? ⟨p, 2, none⟩ = some (.string (bstr name))) := fun w' h => ⟨h.cell 1, h.cell 2⟩
    clear c2 c1
    go_upto_region 15 with fail
    refine wp_region_held_drew (S := fun w' => Bk w' p 33 #[.int .i64 kind, .int .i64 no, .string (bstr name), .slice va L vc]) (by kernel_rfl) (by exact HB1.out.fr (Fr.refl NoBlk _).drew (fun h => h)) (fun hHeld => ?_)
    obtain ⟨w6, hw6⟩ : ∃ w6, w6 = w1.drew := ⟨_, rfl⟩
    have HP6 : Hid (PairS W w6 g gm n rs rm O OM) := by show PairS _ _ _ _ _ _ _ _ _; rw [hw6]; exact HP1.out.nofr (Fr.refl NoBlk _).drew
    have HT6 : Hid (StpP w w6 O OM O OM) := by show StpP _ _ _ _ _ _; rw [hw6]; exact HT1.out.nofr (Fr.refl NoBlk _).drew
    rw [← hw6] at hHeld ⊢
    clear hw6 HP1 HB1 HT1
    refine wpAnyH_take (i := 0) (oi := ⟨some 51, _, _, _, _, _⟩) (v := ?_) rfl (by kernel_rfl) (by kernel_rfl) (by kernel_rfl) (fun _ _ _ h => h) (Or.inl ⟨by rfl, ?_⟩) (by assumption) ?_
    rotate_left 1
    · (intro w hSw; (try dsimp only at hSw); obtain ⟨y1, y2⟩ := HSO.out _ hSw; go_simp) <;> (with_reducible rfl)
    try simp only [Act.put, List.setIfInBounds_toArray, List.set_cons_zero, List.set_cons_succ]
    refine wpAnyH_take (i := 1) (oi := ⟨some 52, _, _, _, _, _⟩) (v := ?_) rfl (by kernel_rfl) (by kernel_rfl) (by kernel_rfl) (fun _ _ _ h => h) (Or.inl ⟨by rfl, ?_⟩) (by assumption) ?_
    rotate_left 1
    · (intro w hSw; (try dsimp only at hSw); obtain ⟨y1, y2⟩ := HSO.out _ hSw; go_simp) <;> (with_reducible rfl)
    try simp only [Act.put, List.setIfInBounds_toArray, List.set_cons_zero, List.set_cons_succ]
    refine wpAnyH_take (i := 2) (oi := ⟨some 53, _, _, _, _, _⟩) (v := ?_) rfl (by kernel_rfl) (by kernel_rfl) (by kernel_rfl) (fun _ _ _ h => h) (Or.inl ⟨by rfl, ?_⟩) (by assumption) ?_
    rotate_left 1
    · (intro w hSw; (try dsimp only at hSw); obtain ⟨y1, y2⟩ := HSO.out _ hSw; go_simp) <;> (with_reducible rfl)
    try simp only [Act.put, List.setIfInBounds_toArray, List.set_cons_zero, List.set_cons_succ]
    refine wpAnyH_take (i := 3) (oi := ⟨some 54, _, _, _, _, _⟩) (v := ?_) rfl (by kernel_rfl) (by kernel_rfl) (by kernel_rfl) (fun _ _ _ h => h) (Or.inl ⟨by rfl, ?_⟩) (by assumption) ?_
    rotate_left 1
    · (intro w hSw; (try dsimp only at hSw); obtain ⟨y1, y2⟩ := HSO.out _ hSw; go_simp) <;> (with_reducible rfl)
    try simp only [Act.put, List.setIfInBounds_toArray, List.set_cons_zero, List.set_cons_succ]
    refine wpAnyH_take (i := 4) (oi := ⟨some 55, _, _, _, _, _⟩) (v := ?_) rfl (by kernel_rfl) (by kernel_rfl) (by kernel_rfl) (fun _ _ _ h => h) (Or.inl ⟨by rfl, ?_⟩) (by assumption) ?_
    rotate_left 1
    · (intro w hSw; (try dsimp only at hSw); obtain ⟨y1, y2⟩ := HSO.out _ hSw; go_simp) <;> (with_reducible rfl)
    try simp only [Act.put, List.setIfInBounds_toArray, List.set_cons_zero, List.set_cons_succ]
    refine wpAnyH_take (i := 6) (oi := ⟨some 57, _, _, _, _, _⟩) (v := ?_) rfl (by kernel_rfl) (by kernel_rfl) (by kernel_rfl) (fun _ _ _ h => h) (Or.inl ⟨by rfl, ?_⟩) (by assumption) ?_
    rotate_left 1
    · (intro w hSw; (try dsimp only at hSw); obtain ⟨y1, y2⟩ := HSO.out _ hSw; go_simp) <;> (with_reducible rfl)
    try simp only [Act.put, List.setIfInBounds_toArray, List.set_cons_zero, List.set_cons_succ]
    refine wpAnyH_take (i := 7) (oi := ⟨some 58, _, _, _, _, _⟩) (v := ?_) rfl (by kernel_rfl) (by kernel_rfl) (by kernel_rfl) (fun _ _ _ h => h) (Or.inl ⟨by rfl, ?_⟩) (by assumption) ?_
    rotate_left 1
    · (intro w hSw; (try dsimp only at hSw); obtain ⟨y1, y2⟩ := HSO.out _ hSw; go_simp) <;> (with_reducible rfl)
    try simp only [Act.put, List.setIfInBounds_toArray, List.set_cons_zero, List.set_cons_succ]
    refine wpAnyH_take (i := 8) (oi := ⟨some 59, _, _, _, _, _⟩) (v := ?_) rfl (by kernel_rfl) (by kernel_rfl) (by kernel_rfl) (fun _ _ _ h => h) (Or.inl ⟨by rfl, ?_⟩) (by assumption) ?_
    rotate_left 1
    · (intro w hSw; (try dsimp only at hSw); obtain ⟨y1, y2⟩ := HSO.out _ hSw; go_simp) <;> (with_reducible rfl)
    try simp only [Act.put, List.setIfInBounds_toArray, List.set_cons_zero, List.set_cons_succ]
    refine wpAnyH_take (i := 9) (oi := ⟨some 60, _, _, _, _, _⟩) (v := ?_) rfl (by kernel_rfl) (by kernel_rfl) (by kernel_rfl) (fun _ _ _ h => h) (Or.inl ⟨by rfl, ?_⟩) (by assumption) ?_
    rotate_left 1
    · (intro w hSw; (try dsimp only at hSw); obtain ⟨y1, y2⟩ := HSO.out _ hSw; go_simp) <;> (with_reducible rfl)
    try simp only [Act.put, List.setIfInBounds_toArray, List.set_cons_zero, List.set_cons_succ]
    refine wpAnyH_take (i := 10) (oi := ⟨some 61, _, _, _, _, _⟩) (v := ?_) rfl (by kernel_rfl) (by kernel_rfl) (by kernel_rfl) (fun _ _ _ h => h) (Or.inl ⟨by rfl, ?_⟩) (by assumption) ?_
    rotate_left 1
    · (intro w hSw; (try dsimp only at hSw); obtain ⟨y1, y2⟩ := HSO.out _ hSw; go_simp) <;> (with_reducible rfl)
    try simp only [Act.put, List.setIfInBounds_toArray, List.set_cons_zero, List.set_cons_succ]
    refine wpAnyH_ready (rs := [5]) (by kernel_rfl) (by simp) ?_
    refine AllReadyH.cons (o := ⟨some 56, _, _, _, _, _⟩) rfl (fun K hK => ?_) AllReadyH.nil
    have hSw := hHeld
    go_simp
    go_at_call 29
    refine (smove_any w6 g O n rs HP6.out.st HLEN.out name HKN.out no).mono ?_
    rintro e w7 ⟨rfl, O', hs7, hp7⟩
    have hB7 : Bk w7 p 33 #[.int .i64 kind, .int .i64 no, .string (bstr name), .slice va L vc] := Bk.fr hSw hp7.fr (fun e => HPO.out e)
    have HP7 : Hid (PairS W w7 g gm n (moveR n rs name no) rm O' OM) := HP6.out.stp hs7 hp7
    have HT7 : Hid (StpP w w7 O OM O' OM) := HT6.out.st hp7
    clear hs7 hp7 HP6 HT6
    refine hK.out _ _ ?_ (fun hHeld => ?_)
    · exact hB7
    clear hK K
    try simp only [Act.put, List.setIfInBounds_toArray, List.set_cons_zero, List.set_cons_succ]
    refine wpAnyH_ready (rs := [11]) (by kernel_rfl) (by simp) ?_
    refine AllReadyH.cons (o := ⟨some 62, _, _, _, _, _⟩) rfl (fun K hK => ?_) AllReadyH.nil
    have hSw := hHeld
    go_simp
    go_at_call 34
    refine (rmove_any w7 W.heap.size gm OM n rm HP7.out.rst HLENM.out name HKN.out no).mono ?_
    rintro e w8 ⟨he8, OM', hs8, hf8, hn8⟩
    rw [HME.out] at he8
    subst he8
    have hB8 : Bk w8 p 33 #[.int .i64 kind, .int .i64 no, .string (bstr name), .slice va L vc] := Bk.fr hSw hf8 (fun e => HPM.out e)
    have HP8 : Hid (PairS W w8 g gm n (moveR n rs name no) (moveR n rm name no) O' OM') := HP7.out.rstp hs8 hf8 hn8
    have HT8 : Hid (StpP w w8 O OM O' OM') := HT7.out.rst hf8 HP7.out.rst.self hn8
    clear hs8 hf8 hn8 HP7 HT7
    refine hK.out _ _ ?_ (fun hHeld => ?_)
    · exact hB8
    clear hK K
    try simp only [Act.put, List.setIfInBounds_toArray, List.set_cons_zero, List.set_cons_succ]
    refine wpAnyH_take (i := 12) (oi := ⟨some 63, _, _, _, _, _⟩) (v := ?_) rfl (by kernel_rfl) (by kernel_rfl) (by kernel_rfl) (fun _ _ _ h => h) (Or.inl ⟨by rfl, ?_⟩) (by assumption) ?_
    rotate_left 1
    · (intro w hSw; (try dsimp only at hSw); obtain ⟨y1, y2⟩ := HSO.out _ hSw; go_simp) <;> (with_reducible rfl)
    try simp only [Act.put, List.setIfInBounds_toArray, List.set_cons_zero, List.set_cons_succ]
    refine wpAnyH_take (i := 13) (oi := ⟨some 6, _, _, _, _, _⟩) (v := ?_) rfl (by kernel_rfl) (by kernel_rfl) (by kernel_rfl) (fun _ _ _ h => h) (Or.inl ⟨by rfl, ?_⟩) (by assumption) ?_
    rotate_left 1
    · (intro w hSw; (try dsimp only at hSw); obtain ⟨y1, y2⟩ := HSO.out _ hSw; go_simp) <;> (with_reducible rfl)
    try simp only [Act.put, List.setIfInBounds_toArray, List.set_cons_zero, List.set_cons_succ]
    refine wpAnyH_done (by kernel_rfl) ?_ _
    clear hHeld HSO
    try go_wp2_with fail
    go_ret
    exact ⟨true, rfl, fun _ => rfl, _, _, _, HDS.out _ (Or.inr (Or.inl ⟨hqk.out, rfl, rfl⟩)) HP8.out, HT8.out⟩
  by_cases hq2 : q = 2
  · have hq := hq2
    have h0 : (bits .and .i64 kind 7 == 0) = false := by rw [HQ.out, hq]; rfl
    have h1 : (bits .and .i64 kind 7 == 1) = false := by rw [HQ.out, hq]; rfl
    have h2 : (bits .and .i64 kind 7 == 2) = true := by rw [HQ.out, hq]; rfl
    have hqk : Hid (q = 1 ∨ q = 2) := .inr hq
    clear hq hq2
    have HSO : Hid (∀ w' : World, Bk w' p 33 #[.int .i64 kind, .int .i64 no, .string (bstr name), .slice va L vc] → w'.cell? ⟨p, 1, none⟩ = some (.int .i64 no) ∧ w'.cell? ⟨p, 2, none⟩ = some (.string (bstr name))) := fun w' h => ⟨h.cell 1, h.cell 2⟩
    clear c2 c1
    go_upto_region 15 with fail
    refine wp_region_held_drew (S := fun w' => Bk w' p 33 #[.int .i64 kind, .int .i64 no, .string (bstr name), .slice va L vc]) (by kernel_rfl) (by exact HB1.out.fr (Fr.refl NoBlk _).drew (fun h => h)) (fun hHeld => ?_)
    obtain ⟨w6, hw6⟩ : ∃ w6, w6 = w1.drew := ⟨_, rfl⟩
    have HP6 : Hid (PairS W w6 g gm n rs rm O OM) := by show PairS _ _ _ _ _ _ _ _ _; rw [hw6]; exact HP1.out.nofr (Fr.refl NoBlk _).drew
    have HT6 : Hid (StpP w w6 O OM O OM) := by show StpP _ _ _ _ _ _; rw [hw6]; exact HT1.out.nofr (Fr.refl NoBlk _).drew
    rw [← hw6] at hHeld ⊢
    clear hw6 HP1 HB1 HT1
    refine wpAnyH_take (i := 0) (oi := ⟨some 51, _, _, _, _, _⟩) (v := ?_) rfl (by kernel_rfl) (by kernel_rfl) (by kernel_rfl) (fun _ _ _ h => h) (Or.inl ⟨by rfl, ?_⟩) (by assumption) ?_
    rotate_left 1
    · (intro w hSw; (try dsimp only at hSw); obtain ⟨y1, y2⟩ := HSO.out _ hSw; go_simp) <;> (with_reducible rfl)
    try simp only [Act.put, List.setIfInBounds_toArray, List.set_cons_zero, List.set_cons_succ]
    refine wpAnyH_take (i := 1) (oi := ⟨some 52, _, _, _, _, _⟩) (v := ?_) rfl (by kernel_rfl) (by kernel_rfl) (by kernel_rfl) (fun _ _ _ h => h) (Or.inl ⟨by rfl, ?_⟩) (by assumption) ?_
    rotate_left 1
    · (intro w hSw; (try dsimp only at hSw); obtain ⟨y1, y2⟩ := HSO.out _ hSw; go_simp) <;> (with_reducible rfl)
    try simp only [Act.put, List.setIfInBounds_toArray, List.set_cons_zero, List.set_cons_succ]
    refine wpAnyH_take (i := 2) (oi := ⟨some 53, _, _, _, _, _⟩) (v := ?_) rfl (by kernel_rfl) (by kernel_rfl) (by kernel_rfl) (fun _ _ _ h => h) (Or.inl ⟨by rfl, ?_⟩) (by assumption) ?_
    rotate_left 1
    · (intro w hSw; (try dsimp only at hSw); obtain ⟨y1, y2⟩ := HSO.out _ hSw; go_simp) <;> (with_reducible rfl)
    try simp only [Act.put, List.setIfInBounds_toArray, List.set_cons_zero, List.set_cons_succ]
    refine wpAnyH_take (i := 3) (oi := ⟨some 54, _, _, _, _, _⟩) (v := ?_) rfl (by kernel_rfl) (by kernel_rfl) (by kernel_rfl) (fun _ _ _ h => h) (Or.inl ⟨by rfl, ?_⟩) (by assumption) ?_
    rotate_left 1
    · (intro w hSw; (try dsimp only at hSw); obtain ⟨y1, y2⟩ := HSO.out _ hSw; go_simp) <;> (with_reducible rfl)
    try simp only [Act.put, List.setIfInBounds_toArray, List.set_cons_zero, List.set_cons_succ]
    refine wpAnyH_take (i := 4) (oi := ⟨some 55, _, _, _, _, _⟩) (v := ?_) rfl (by kernel_rfl) (by kernel_rfl) (by kernel_rfl) (fun _ _ _ h => h) (Or.inl ⟨by rfl, ?_⟩) (by assumption) ?_
    rotate_left 1
    · (intro w hSw; (try dsimp only at hSw); obtain ⟨y1, y2⟩ := HSO.out _ hSw; go_simp) <;> (with_reducible rfl)
    try simp only [Act.put, List.setIfInBounds_toArray, List.set_cons_zero, List.set_cons_succ]
    refine wpAnyH_take (i := 6) (oi := ⟨some 57, _, _, _, _, _⟩) (v := ?_) rfl (by kernel_rfl) (by kernel_rfl) (by kernel_rfl) (fun _ _ _ h => h) (Or.inl ⟨by rfl, ?_⟩) (by assumption) ?_
    rotate_left 1
    · (intro w hSw; (try dsimp only at hSw); obtain ⟨y1, y2⟩ := HSO.out _ hSw; go_simp) <;> (with_reducible rfl)
    try simp only [Act.put, List.setIfInBounds_toArray, List.set_cons_zero, List.set_cons_succ]
    refine wpAnyH_take (i := 7) (oi := ⟨some 58, _, _, _, _, _⟩) (v := ?_) rfl (by kernel_rfl) (by kernel_rfl) (by kernel_rfl) (fun _ _ _ h => h) (Or.inl ⟨by rfl, ?_⟩) (by assumption) ?_
    rotate_left 1
    · (intro w hSw; (try dsimp only at hSw); obtain ⟨y1, y2⟩ := HSO.out _ hSw; go_simp) <;> (with_reducible rfl)
    try simp only [Act.put, List.setIfInBounds_toArray, List.set_cons_zero, List.set_cons_succ]
    refine wpAnyH_take (i := 8) (oi := ⟨some 59, _, _, _, _, _⟩) (v := ?_) rfl (by kernel_rfl) (by kernel_rfl) (by kernel_rfl) (fun _ _ _ h => h) (Or.inl ⟨by rfl, ?_⟩) (by assumption) ?_
    rotate_left 1
    · (intro w hSw; (try dsimp only at hSw); obtain ⟨y1, y2⟩ := HSO.out _ hSw; go_simp) <;> (with_reducible rfl)
    try simp only [Act.put, List.setIfInBounds_toArray, List.set_cons_zero, List.set_cons_succ]
    refine wpAnyH_take (i := 9) (oi := ⟨some 60, _, _, _, _, _⟩) (v := ?_) rfl (by kernel_rfl) (by kernel_rfl) (by kernel_rfl) (fun _ _ _ h => h) (Or.inl ⟨by rfl, ?_⟩) (by assumption) ?_
    rotate_left 1
    · (intro w hSw; (try dsimp only at hSw); obtain ⟨y1, y2⟩ := HSO.out _ hSw; go_simp) <;> (with_reducible rfl)
    try simp only [Act.put, List.setIfInBounds_toArray, List.set_cons_zero, List.set_cons_succ]
    refine wpAnyH_take (i := 10) (oi := ⟨some 61, _, _, _, _, _⟩) (v := ?_) rfl (by kernel_rfl) (by kernel_rfl) (by kernel_rfl) (fun _ _ _ h => h) (Or.inl ⟨by rfl, ?_⟩) (by assumption) ?_
    rotate_left 1
    · (intro w hSw; (try dsimp only at hSw); obtain ⟨y1, y2⟩ := HSO.out _ hSw; go_simp) <;> (with_reducible rfl)
    try simp only [Act.put, List.setIfInBounds_toArray, List.set_cons_zero, List.set_cons_succ]
    refine wpAnyH_ready (rs := [5]) (by kernel_rfl) (by simp) ?_
    refine AllReadyH.cons (o := ⟨some 56, _, _, _, _, _⟩) rfl (fun K hK => ?_) AllReadyH.nil
    have hSw := hHeld
    go_simp
    go_at_call 29
    refine (smove_any w6 g O n rs HP6.out.st HLEN.out name HKN.out no).mono ?_
    rintro e w7 ⟨rfl, O', hs7, hp7⟩
    have hB7 : Bk w7 p 33 #[.int .i64 kind, .int .i64 no, .string (bstr name), .slice va L vc] := Bk.fr hSw hp7.fr (fun e => HPO.out e)
    have HP7 : Hid (PairS W w7 g gm n (moveR n rs name no) rm O' OM) := HP6.out.stp hs7 hp7
    have HT7 : Hid (StpP w w7 O OM O' OM) := HT6.out.st hp7
    clear hs7 hp7 HP6 HT6
    refine hK.out _ _ ?_ (fun hHeld => ?_)
    · exact hB7
    clear hK K
    try simp only [Act.put, List.setIfInBounds_toArray, List.set_cons_zero, List.set_cons_succ]
    refine wpAnyH_ready (rs := [11]) (by kernel_rfl) (by simp) ?_
    refine AllReadyH.cons (o := ⟨some 62, _, _, _, _, _⟩) rfl (fun K hK => ?_) AllReadyH.nil
    have hSw := hHeld
    go_simp
    go_at_call 34
    refine (rmove_any w7 W.heap.size gm OM n rm HP7.out.rst HLENM.out name HKN.out no).mono ?_
    rintro e w8 ⟨he8, OM', hs8, hf8, hn8⟩
    rw [HME.out] at he8
    subst he8
    have hB8 : Bk w8 p 33 #[.int .i64 kind, .int .i64 no, .string (bstr name), .slice va L vc] := Bk.fr hSw hf8 (fun e => HPM.out e)
    have HP8 : Hid (PairS W w8 g gm n (moveR n rs name no) (moveR n rm name no) O' OM') := HP7.out.rstp hs8 hf8 hn8
    have HT8 : Hid (StpP w w8 O OM O' OM') := HT7.out.rst hf8 HP7.out.rst.self hn8
    clear hs8 hf8 hn8 HP7 HT7
    refine hK.out _ _ ?_ (fun hHeld => ?_)
    · exact hB8
    clear hK K
    try simp only [Act.put, List.setIfInBounds_toArray, List.set_cons_zero, List.set_cons_succ]
    refine wpAnyH_take (i := 12) (oi := ⟨some 63, _, _, _, _, _⟩) (v := ?_) rfl (by kernel_rfl) (by kernel_rfl) (by kernel_rfl) (fun _ _ _ h => h) (Or.inl ⟨by rfl, ?_⟩) (by assumption) ?_
    rotate_left 1
    · (intro w hSw; (try dsimp only at hSw); obtain ⟨y1, y2⟩ := HSO.out _ hSw; go_simp) <;> (with_reducible rfl)
    try simp only [Act.put, List.setIfInBounds_toArray, List.set_cons_zero, List.set_cons_succ]
    refine wpAnyH_take (i := 13) (oi := ⟨some 6, _, _, _, _, _⟩) (v := ?_) rfl (by kernel_rfl) (by kernel_rfl) (by kernel_rfl) (fun _ _ _ h => h) (Or.inl ⟨by rfl, ?_⟩) (by assumption) ?_
    rotate_left 1
    · (intro w hSw; (try dsimp only at hSw); obtain ⟨y1, y2⟩ := HSO.out _ hSw; go_simp) <;> (with_reducible rfl)
    try simp only [Act.put, List.setIfInBounds_toArray, List.set_cons_zero, List.set_cons_succ]
    refine wpAnyH_done (by kernel_rfl) ?_ _
    clear hHeld HSO
    try go_wp2_with fail
    go_ret
    exact ⟨true, rfl, fun _ => rfl, _, _, _, HDS.out _ (Or.inr (Or.inl ⟨hqk.out, rfl, rfl⟩)) HP8.out, HT8.out⟩
  by_cases hq3 : q = 3
  · have hq := hq3
    have h0 : (bits .and .i64 kind 7 == 0) = false := by rw [HQ.out, hq]; rfl
    have h1 : (bits .and .i64 kind 7 == 1) = false := by rw [HQ.out, hq]; rfl
    have h2 : (bits .and .i64 kind 7 == 2) = false := by rw [HQ.out, hq]; rfl
    have h3 : (bits .and .i64 kind 7 == 3) = true := by rw [HQ.out, hq]; rfl
    have hqk : Hid (q = 3) := hq
    clear hq hq3
    go_wp2_with fail
    refine (srange_any w1 g O n rs HP1.out.st HLEN2.out HLM.out.val name no).mono ?_
    rintro e w2 ⟨A2, e2, ys, rfl, ho2, hrow2, hf2⟩
    obtain ⟨us, hus⟩ : ∃ us, us = rrange name no rs := ⟨_, rfl⟩
    rw [← hus] at ho2 hrow2 ⊢
    have HUS := Lib.hid hus
    have hyl := hrow2.1
    rw [← hyl] at ho2 ⊢
    have HY := Lib.hid (And.intro ho2 (And.intro hrow2 hf2))
    have HB2 : Hid (Bk w2 p 33 #[.int .i64 kind, .int .i64 no, .string (bstr name), .slice va L vc]) := Bk.fr HB1.out hf2 (fun e => e)
    have HP2 : Hid (PairS W w2 g gm n rs rm O OM) := HP1.out.nofr hf2
    have HUL : Hid (ys.length ≤ 100000 ∧ us.length = ys.length ∧ ∀ z ∈ us, z.2.val.length ≤ 500) := by
      refine ⟨?_, hyl.symm, fun z hz => ?_⟩
      · have h1 : us.length ≤ rs.length := by
          rw [hus]
          exact Nat.le_trans (List.length_take_le' _ _) (List.length_filter_le _ _)
        have := HLEN2.out
        omega
      · rw [hus] at hz
        exact (HLM.out.2 z (List.mem_filter.1 (List.mem_of_mem_take hz)).1).1
    obtain ⟨m2, hm2⟩ : ∃ m, m = ys.length := ⟨_, rfl⟩
    rw [← hm2]
    have HM2 := Lib.hid hm2
    clear hus hyl ho2 hrow2 hf2 hm2 c1 c2
    have d1 : w2.cell? ⟨p, 1, none⟩ = some (.int .i64 no) := HB2.out.cell 1
    have d2 : w2.cell? ⟨p, 2, none⟩ = some (.string (bstr name)) := HB2.out.cell 2
    go_wp2_with fail
    refine (rrange_any w2 W.heap.size gm OM n rm HP2.out.rst HLENM.out name no).mono ?_
    rintro e w3 ⟨A3, e3, zs, rfl, ho3, hz3, hr3, hf3⟩
    have HSM : Hid (Calls Try.prog 19 #[.slice A2 m2 e2, .slice A3 zs.length e3] w3 fun e w' => e = .returned (.bool (sameRs us (rrange name no rm))) ∧ Fr NoBlk w3 w') := by
      have h := same_any w3 A2 e2 ys A3 e3 (vz zs) us (rrange name no rm) (Rd.nofr (Rd.of_ownW HY.out.1) hf3) (Rd.of_ownW ho3) ((HY.out.2.1.told (HP1.out.st.lx)).nofr hf3) (by rw [← hz3]; exact told_zs hr3) (by have := HUL.out; omega)
      rw [vz_len, ← HM2.out] at h
      exact h
    obtain ⟨sb, hsb⟩ : ∃ b, b = sameRs us (rrange name no rm) := ⟨_, rfl⟩
    rw [← hsb] at HSM
    have HSB : Hid (rs = rm → sb = true) := fun e => by rw [hsb, HUS.out, e]; exact (sameRs_iff _ _).2 rfl
    clear hsb
    have HF3 := Lib.hid hf3
    clear ho3 hz3 hr3 hf3
    go_wp2_with fail
    refine HSM.out.mono ?_
    clear HSM
    rintro e w4 ⟨rfl, hf4⟩
    have HF4 : Hid (Fr NoBlk w2 w4) := HF3.out.trans hf4
    have HSP : Hid (Calls Try.prog 22 #[.slice A2 m2 e2] w4 fun e w' => (∃ x, e = .returned x) ∧ Fr (fun b => w1.heap.size ≤ b) w4 w') := by
      rw [HM2.out]
      refine spoil_any w4 w1.heap.size A2 e2 ys (own_fr HY.out.1 HF4.out fun _ _ e => e) (RowsOf.wr (RowsOf.fr HY.out.2.1 HF4.out fun _ _ e => e)) HUL.out.1 fun y hy => ?_
      obtain ⟨j, hj, rfl⟩ := List.getElem_of_mem hy
      have h1 := HUL.out
      have h2 := (HY.out.2.1.2 j _ _ (List.getElem?_eq_getElem hj) (List.getElem?_eq_getElem (by omega))).2.len
      have h3 := h1.2.2 _ (List.getElem_mem (l := us) (n := j) (by omega))
      omega
    clear hf4
    go_wp2_with fail
    refine HSP.out.mono ?_
    clear HSP
    rintro e w5 ⟨⟨x5, rfl⟩, hf5⟩
    have hf15 : Fr NoBlk w1 w5 := (HY.out.2.2.trans HF4.out).step hf5 fun i hi e => by omega
    have HP5 : Hid (PairS W w5 g gm n rs rm O OM) := HP1.out.nofr hf15
    have HT5 : Hid (StpP w w5 O OM O OM) := HT1.out.nofr hf15
    clear hf15
    clear hf5
    go_wp2_with fail
    go_ret
    exact ⟨sb, rfl, HSB.out, _, _, _, HDS.out _ (Or.inr (Or.inr (Or.inl ⟨hqk.out, rfl, rfl⟩))) HP5.out, HT5.out⟩
  have h0 : (bits .and .i64 kind 7 == 0) = false := by rw [HQ.out]; exact beq_eq_false_iff_ne.2 (by omega)
  have h1 : (bits .and .i64 kind 7 == 1) = false := by rw [HQ.out]; exact beq_eq_false_iff_ne.2 (by omega)
  have h2 : (bits .and .i64 kind 7 == 2) = false := by rw [HQ.out]; exact beq_eq_false_iff_ne.2 (by omega)
  have h3 : (bits .and .i64 kind 7 == 3) = false := by rw [HQ.out]; exact beq_eq_false_iff_ne.2 (by omega)
  have hqk : Hid (¬ q = 0 ∧ ¬ q = 1 ∧ ¬ q = 2 ∧ ¬ q = 3) := ⟨hq, hq1, hq2, hq3⟩
  clear hq hq1 hq2 hq3
  have HRD0 := Lib.hid HDT.out
  obtain ⟨q, hq⟩ : ∃ q, q = w1.heap.size := ⟨_, rfl⟩
  obtain ⟨w2, hw2⟩ : ∃ w2, w2 = w1.alloc (.cells #[] 5) := ⟨_, rfl⟩
  have HF2 : Hid (Fr NoBlk w1 w2) := by show Fr _ _ _; rw [hw2]; exact (Fr.refl _ _).alloc _
  have HO2 : Hid (w2.ownsRow w1.heap.size 5 1 (.slice (some ⟨q, 0, none⟩) 0 0) 0 []) := own_litW 1 (by rw [hw2, hq]; exact Bk.new _ _ _) (by rw [hq]; exact Nat.le_refl _)
  have HR2 : Hid (Rd w2 va (cb vb)) := HDT.out.1.nofr HF2.out
  have HB2 : Hid (Bk w2 p 33 #[.int .i64 kind, .int .i64 no, .string (bstr name), .slice va L vc]) := Bk.fr HB1.out HF2.out (fun e => e)
  have d3 : (w1.alloc (.cells #[] 5)).cell? ⟨p, 3, none⟩ = some (.slice va L vc) := by rw [← hw2]; exact HB2.out.cell 3
  have HLB : Hid ((cb vb).length = L * 1) := by show _ = _; rw [cb_length, Nat.mul_one]; exact HDT.out.2.2.1.symm
  clear c2 c3
  go_wp2_with (at_builtin; rw [← hw2, ← hq]; clear hw2 hq; go_loud (refine wpList_appW rfl _ _ 31 rfl w1.heap.size 5 i1 _ 1 1 Try.underlying31 hi1 hy0 hy1 hy2 rfl (by decide) (.slice (some ⟨q, 0, none⟩) 0 0) 0 [] rfl HO2.out va vc L (cb vb) rfl HLB.out HR2.out (cb_one _) HDT.out.2.1 (by unfold maxLen; have := HDT.out.2.2; omega) (by have := HDT.out.2.2; omega) HF2.out.size ?_))
  intro v3 w3 ho3 hg3 _
  try rw [List.nil_append, Nat.zero_add] at ho3
  obtain ⟨A3, c3, rfl, _, hn3⟩ := own_form ho3
  have hf3 : Fr NoBlk w1 w3 := grown_no HF2.out HO2.out hg3
  obtain ⟨ex, hex⟩ : ∃ ex : Option Nat, ex = A3.map fun a => a.block := ⟨_, rfl⟩
  have hxx : ∀ k, ex = some k → w1.heap.size ≤ k ∧ k < w3.heap.size := fun k e => by
    rw [hex] at e
    obtain ⟨a, rfl, rfl⟩ := Option.map_eq_some_iff.1 e
    exact own_in ho3 rfl
  have hch := HP1.out.change hf3
  obtain ⟨E2, hE2⟩ : ∃ E : Ex, E.x = ex := ⟨⟨ex⟩, rfl⟩
  have HP3 : Hid (PairS W w3 g gm n rs rm O OM) := hch E2 fun k e => hxx k (hE2 ▸ e)
  have HT3 : Hid (StpP w w3 O OM O OM) := HT1.out.nofr hf3
  have HWW : Hid (w.heap.size ≤ w1.heap.size) := HT1.out.fr.size
  have HB3 : Hid (Bk w3 p 33 #[.int .i64 kind, .int .i64 no, .string (bstr name), .slice va L vc]) := Bk.fr HB1.out hf3 (fun e => e)
  have HPO3 : Hid (¬ O p) := HPO.out
  have HO3 : Hid (w3.ownsRow w1.heap.size 5 1 (.slice A3 L c3) L (cb vb) ∧ (A3 = none → c3 = 0)) := ⟨ho3, hn3⟩
  have HEX : Hid (E2.x = A3.map fun a => a.block) := hE2.trans hex
  have HRV : Hid (Rd w3 va (cb vb)) := HDT.out.1.nofr hf3
  clear hch ho3 hg3 hn3 hf3 hE2 hex hxx d3 HO2 HR2 HB2 HP1
  have c2 : w3.cell? ⟨p, 2, none⟩ = some (.string (bstr name)) := HB3.out.cell 2
  go_wp2_with fail
  refine (sput_any w3 g O n rs HP3.out.st HLEN.out name HKN.out A3 L c3 vb HDT.out.2.2.1 HO3.out.2 (Rd.of_ownW HO3.out.1) (by have := HDT.out.2.2; omega)).mono ?_
  rintro e w4 ⟨⟨x4, rfl⟩, O', hs4, hp4⟩
  have HB4 : Hid (Bk w4 p 33 #[.int .i64 kind, .int .i64 no, .string (bstr name), .slice va L vc]) := Bk.fr HB3.out hp4.fr (fun e => HPO3.out e)
  have HP4 : Hid (PairS W w4 g gm n (rset rs name ⟨true, vb, (rget n rs name).home, (rget n rs name).count⟩) rm O' OM) := HP3.out.stp hs4 hp4
  have HT4 : Hid (StpP w w4 O OM O' OM) := HT3.out.st hp4
  have hnb : ∀ k, Byt w3 k → ¬ O k := fun k hk hb => HP3.out.st.nb hb hk
  have HO4 : Hid (w4.ownsRow w1.heap.size 5 1 (.slice A3 L c3) L (cb vb)) := own_fr HO3.out.1 hp4.fr fun k hk => hnb k (Byt.own HO3.out.1 hk)
  have HR4 : Hid (Rd w4 va (cb vb)) := HVW.out w4 HP4.out.fr
  clear hs4 hp4 c2 HP3 HB3 HRV hnb
  have d2 : w4.cell? ⟨p, 2, none⟩ = some (.string (bstr name)) := HB4.out.cell 2
  have d3 : w4.cell? ⟨p, 3, none⟩ = some (.slice va L vc) := HB4.out.cell 3
  go_wp2_with fail
  refine (rput_any w4 W.heap.size gm OM n rm HP4.out.rst HLENM.out name HKN.out va L vc vb HDT.out.2.2.1 HDT.out.2.1 HR4.out (by have := HDT.out.2.2; omega)).mono ?_
  rintro e w5 ⟨⟨x5, rfl⟩, OM', hs5, hf5, hn5⟩
  have hn5' : ∀ b, OM' b → OM b ∨ w4.heap.size ≤ b := fun b hb => (hn5 b hb).imp (fun e => by rw [e]; exact HP4.out.rst.self) id
  have HP5 : Hid (PairS W w5 g gm n (rset rs name ⟨true, vb, (rget n rs name).home, (rget n rs name).count⟩) (rset rm name ⟨true, vb, (rget n rm name).home, (rget n rm name).count⟩) O' OM') := HP4.out.rstp hs5 hf5 hn5'
  have HT5 : Hid (StpP w w5 O OM O' OM') := HT4.out.rst hf5 HP4.out.rst.self hn5'
  clear hn5'
  have HO5 : Hid (w5.ownsRow w1.heap.size 5 1 (.slice A3 L c3) L (cb vb)) := own_fr HO4.out hf5 fun k hk e => HP4.out.rst.nb HP4.out.rst.self (e ▸ Byt.own HO4.out hk)
  clear hs5 hf5 hn5 d2 d3 HP4 HB4 HO4 HR4
  obtain ⟨rs', hrs'⟩ : ∃ rs', rs' = rset rs name ⟨true, vb, (rget n rs name).home, (rget n rs name).count⟩ := ⟨_, rfl⟩
  obtain ⟨rm', hrm'⟩ : ∃ rm', rm' = rset rm name ⟨true, vb, (rget n rm name).home, (rget n rm name).count⟩ := ⟨_, rfl⟩
  rw [← hrs', ← hrm'] at HP5
  have HRS' := Lib.hid (And.intro hrs' hrm')
  have HL5 : Hid (L ≤ 500) := HDT.out.2.2.2
  clear hrs' hrm'
  go_wp2_with fail
  go_loopw [31] (fun i wr => ∃ j : Nat, i = .int .i64 (j : Int) ∧ j ≤ L ∧ Hid (PairS W wr g gm n rs' rm' O' OM' ∧ StpP w wr O OM O' OM' ∧ (0 < L → ∃ gx cs, A3 = some ⟨gx, 0, none⟩ ∧ (W.heap.size ≤ gx ∧ w.heap.size ≤ gx) ∧ Bk wr gx 5 cs ∧ L ≤ cs.size))) (fun i _ => L - (intOf i).toNat)
  case atStart =>
    refine ⟨0, rfl, Nat.zero_le _, HP5.out, HT5.out, fun h0 => ?_⟩
    have hW1 := HPW.out
    have hW2 := HWW.out
    rcases HO5.out.2 with ⟨hv, hx⟩ | ⟨gx, cap, cur, hv, hb, hh, hnc, hcm, hcs, htake⟩
    · injection hv with _ h2 _
      omega
    · injection hv with h1 h2 h3
      exact ⟨gx, cur, h1, ⟨by omega, by omega⟩, hh, by omega⟩
  case round =>
    obtain ⟨j, rfl, hj, HI⟩ := hrel
    by_cases hlt : j < L
    · obtain ⟨gx, cs, hA, hgW, hbx, hcs⟩ := HI.out.2.2 (by omega)
      subst hA
      have hj' : (j : Int) < (L : Int) := by omega
      have hj0 : (0 : Int) ≤ (j : Int) := by omega
      have hw3 : IntKind.i64.wrap ((j : Int) + 1) = ((j + 1 : Nat) : Int) := by have := HL5.out; rw [IntWalk.i64_in _ (by omega)]; omega
      obtain ⟨u8, hu8⟩ : ∃ u, cs[j]? = some u := ⟨_, Array.getElem?_eq_getElem (by omega)⟩
      have e2 : wr.cell? ⟨gx, j, none⟩ = some u8 := by rw [hbx.cell]; exact hu8
      have ef := hbx.free j
      have HI2 : Hid (PairS W (wr.setCell ⟨gx, j, none⟩ (.int .u8 238)) g gm n rs' rm' O' OM' ∧ StpP w (wr.setCell ⟨gx, j, none⟩ (.int .u8 238)) O OM O' OM' ∧ (0 < L → ∃ g2 cs, some (⟨gx, 0, none⟩ : Addr) = some ⟨g2, 0, none⟩ ∧ (W.heap.size ≤ g2 ∧ w.heap.size ≤ g2) ∧ Bk (wr.setCell ⟨gx, j, none⟩ (.int .u8 238)) g2 5 cs ∧ L ≤ cs.size)) := by
        exact ⟨HI.out.1.spoil HEX.out ((Fr.refl (fun b => b = gx) wr).setCell (p := ⟨gx, j, none⟩) (fun _ => rfl) _) hgW.1 ⟨_, _, hbx⟩, HI.out.2.1.sp ((Fr.refl (fun b => b = gx) wr).setCell (p := ⟨gx, j, none⟩) (fun _ => rfl) _) (fun b hb e => by have := hgW.2; omega), fun _ => ⟨gx, _, rfl, hgW, hbx.put j _, by rw [Array.size_setIfInBounds]; exact hcs⟩⟩
      clear hgW hbx hcs hu8 HI
      go_wp2_with fail
      go_roundw
      case rel => exact ⟨j + 1, by go_num, by omega, HI2⟩
      case measure => simp [intOf]; omega
    · have HPE := Lib.hid HI.out.1
      have HTE := Lib.hid HI.out.2.1
      have hj' : ¬ (j : Int) < (L : Int) := by omega
      clear HI
      go_wp2_with fail
      go_ret
      exact ⟨true, rfl, fun _ => rfl, _, _, _, HDS.out _ (Or.inr (Or.inr (Or.inr ⟨hqk.out, HRS'.out.1, HRS'.out.2⟩))) HPE.out, HTE.out⟩
/-- on both alike; what was made since stays. -/
theorem do_keep (W w0 w : World) (g gm n k : Nat) (rs : List Rw) (h : Pair W w0 g gm n rs) (hf : Fr NoBlk w0 w) (hl : Lim k rs) (hk : k ≤ 99999) (x : Opn) (hx : Part W x.data) (hs : x.data.2.2.length ≤ 500 ∧ x.name.length ≤ 500) :
    Calls Try.prog 14 #[.pointer (some ⟨g, 0, none⟩), .pointer (some ⟨gm, 0, none⟩), .agg (opa x)] w fun e w' => e = .returned (.bool true) ∧ Pair W w' g gm n (dstep n rs x) ∧ Lim (k + 1) (dstep n rs x) ∧ ∀ p T cs, w0.heap.size ≤ p → Bk w p T cs → Bk w' p T cs := by
  obtain ⟨O, OM, o, h⟩ := h
  obtain ⟨E, h⟩ : ∃ E : Ex, PairS W w0 g gm n rs rs O OM := ⟨⟨o⟩, h⟩
  refine (do_two W w g gm n k rs rs O OM (h.nofr hf) hl hl hk x hx hs).mono ?_
  rintro e w' ⟨b, rfl, hb, O', OM', o', hp, ht⟩
  refine ⟨by rw [hb rfl], ⟨O', OM', o', hp⟩, hl.step x hs, fun p T cs hp0 hb => hb.fr ht.fr fun e => ?_⟩
  rcases e with e | e
  · have := h.st.lt e
    omega
  · have := (h.rst.lt e).2
    omega
end Go.Proofs.Ytkdcacajacndmaa
