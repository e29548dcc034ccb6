/- A copy of a record; Get; is a record a row? Conditions: values of at most 10^9 bytes. -/
import Derived.Test.YtfifpgefdcgbgaaSt2
import Derived.BigQuiet
namespace Go.Proofs.Ytfifpgefdcgbgaa
open Go.RowKit
/-- a record's value in memory made since N. -/
structure Fresh (N : Nat) (w : World) (v : VaR) (r : Rec) : Prop where
  has : v.has = r.has
  home : v.home = r.home
  count : v.count = r.count
  len : v.vn = r.val.length
  own : w.ownsRow N 5 1 (.slice v.va v.vn v.vc) r.val.length (cb r.val)
theorem Fresh.nil {N : Nat} {w : World} {v : VaR} {r : Rec} (h : Fresh N w v r) : v.va = none → v.vc = 0 := fun e => by
  obtain ⟨A, c, e1, h1, h2⟩ := own_form h.own
  injection e1 with e1 e2 e3
  rw [e3]
  exact h2 (e1 ▸ e)
theorem Fresh.reads {N : Nat} {w : World} {v : VaR} {r : Rec} (h : Fresh N w v r) : Reads w v r :=
  ⟨h.has, h.home, h.count, h.len, h.nil, Rd.of_own (by have := h.own; rw [h.len] at this; exact this), fun k hk => Byt.own h.own (ablk_own hk)⟩
theorem Fresh.fr {N : Nat} {C : Nat → Prop} {w w' : World} {v : VaR} {r : Rec} (h : Fresh N w v r) (hf : Fr C w w') (hn : ∀ k, Byt w k → ¬ C k) : Fresh N w' v r :=
  ⟨h.has, h.home, h.count, h.len, own_fr h.own hf fun k hk => hn k (Byt.own h.own hk)⟩
theorem Fresh.low {N M : Nat} {w : World} {v : VaR} {r : Rec} (h : Fresh N w v r) (hm : M ≤ N) : Fresh M w v r := ⟨h.has, h.home, h.count, h.len, own_base h.own hm⟩
theorem own_in {w : World} {base : Nat} {e : TypeId} {size n : Nat} {v : Value} {xs : List Value} (h : w.ownsRow base e size v n xs) {k : Nat} (hk : v.ownBlock = some k) : base ≤ k ∧ k < w.heap.size := by
  rcases h.2 with ⟨h1, _⟩ | ⟨g, cap, cur, h1, h2, hh, _⟩
  · rw [h1] at hk; cases hk
  · rw [h1] at hk
    have : g = k := by simpa [Value.ownBlock] using hk
    subst this
    exact ⟨h2, (Array.getElem?_eq_some_iff.1 hh).1⟩
def GetPost (w : World) (r : Rec) (e : Ending) (w' : World) : Prop := ∃ v, e = .returned (vaR v) ∧ Fresh w.heap.size w' v r ∧ Fr NoBlk w w'
set_option maxRecDepth 100000 in
set_option maxHeartbeats 1000000 in
theorem copied_any (w : World) (v : VaR) (r : Rec) (h : Reads w v r) (hl : r.val.length ≤ 1000000000) :
    Calls Try.prog 37 #[vaR v] w (GetPost w r) := by
  obtain ⟨p, hp⟩ : ∃ p, p = w.heap.size := ⟨_, rfl⟩
  obtain ⟨q, hq⟩ : ∃ q, q = p + 1 := ⟨_, rfl⟩
  obtain ⟨w0, hw0⟩ : ∃ w0, w0 = (w.alloc (.cells #[.bool v.has, .slice v.va v.vn v.vc, .int .i64 v.home, .int .u64 (v.count : Int)] 38)).alloc (.cells #[.bool false, .slice none 0 0, .int .i64 0, .int .u64 0] 38) := ⟨_, rfl⟩
  have hf0 : Fr NoBlk w w0 := by rw [hw0]; exact ((Fr.refl _ _).alloc _).alloc _
  have HP0 : Hid (Bk w0 p 38 #[.bool v.has, .slice v.va v.vn v.vc, .int .i64 v.home, .int .u64 (v.count : Int)]) := by show Bk _ _ _ _; rw [hw0, hp]; exact (Bk.new _ _ _).alloc _
  have HQ0 : Hid (Bk w0 q 38 #[.bool false, .slice none 0 0, .int .i64 0, .int .u64 0]) := by show Bk _ _ _ _; rw [hw0, hq, hp]; have h := Bk.new (w.alloc (.cells #[.bool v.has, .slice v.va v.vn v.vc, .int .i64 v.home, .int .u64 (v.count : Int)] 38)) 38 #[.bool false, .slice none 0 0, .int .i64 0, .int .u64 0]; rw [World.size_alloc] at h; exact h
  have HC := Lib.hid (clone_any w0 v.va v.vn v.vc r.val h.len (h.rd.nofr hf0) h.nil hl)
  have HF0 := Lib.hid hf0
  have HP := Lib.hid hp
  have HQE := Lib.hid hq
  have HW0 := Lib.hid hw0
  have HR := Lib.hid h
  have a1 : w0.cell? ⟨p, 1, none⟩ = some (.slice v.va v.vn v.vc) := HP0.out.cell 1
  clear h hl hf0 hp hw0 hq
  unfold vaR
  go_enter Try.func37, Try.ntmps37
  go_upto_region 1 with fail
  rw [← HW0.out, ← HP.out, ← HQE.out]
  clear HW0
  go_wp2_with fail
  refine HC.out.mono ?_
  clear HC a1
  rintro e w1 ⟨v', rfl, hn⟩
  obtain ⟨A, c, rfl, hac, han⟩ := own_form hn.own
  have HN := Lib.hid hn
  obtain ⟨n', hn'⟩ : ∃ n', n' = r.val.length := ⟨_, rfl⟩
  rw [← hn'] at HN ⊢
  have HN' := Lib.hid hn'
  have HP1 := Lib.hid (HP0.out.fr hn.fr fun e => e)
  have HQ1 := Lib.hid (HQ0.out.fr hn.fr fun e => e)
  obtain ⟨u, hu⟩ : ∃ u : VaR, u = ⟨v.has, A, n', c, v.home, v.count⟩ := ⟨_, rfl⟩
  obtain ⟨W2, hW2⟩ : ∃ W, W = w1.setCell ⟨p, 1, none⟩ (.slice A n' c) := ⟨_, rfl⟩
  have hx2 : Fr (fun k => k = p) w1 W2 := by rw [hW2]; exact (Fr.refl (fun k => k = p) w1).setCell (p := ⟨p, 1, none⟩) (fun _ => rfl) _
  have HP2 : Hid (Bk W2 p 38 #[.bool u.has, .slice u.va u.vn u.vc, .int .i64 u.home, .int .u64 (u.count : Int)]) := by show Bk _ _ _ _; rw [hW2, hu]; exact HP1.out.put 1 _
  have HQ2 : Hid (Bk W2 q 38 #[.bool false, .slice none 0 0, .int .i64 0, .int .u64 0]) := HQ1.out.fr hx2 (by have := HQE.out; omega)
  have a1 : w1.cell? ⟨p, 1, none⟩ = some (.slice v.va v.vn v.vc) := HP1.out.cell 1
  have af := HP1.out.free 1
  have HW2 := Lib.hid hW2
  have HX2 := Lib.hid hx2
  have HU := Lib.hid hu
  clear hn hn' hW2 hx2 hu hac han
  go_upto_region 2 with fail
  rw [← HW2.out]
  clear HW2 a1 af
  have a0 : W2.cell? ⟨p, 0, none⟩ = some (.bool u.has) := HP2.out.cell 0
  have a1 : W2.cell? ⟨p, 1, none⟩ = some (.slice u.va u.vn u.vc) := HP2.out.cell 1
  have a2 : W2.cell? ⟨p, 2, none⟩ = some (.int .i64 u.home) := HP2.out.cell 2
  have a3 : W2.cell? ⟨p, 3, none⟩ = some (.int .u64 (u.count : Int)) := HP2.out.cell 3
  have z0 : W2.cell? ⟨q, 0, none⟩ = some (.bool false) := HQ2.out.cell 0
  have z1 : W2.cell? ⟨q, 1, none⟩ = some (.slice none 0 0) := HQ2.out.cell 1
  have z2 : W2.cell? ⟨q, 2, none⟩ = some (.int .i64 0) := HQ2.out.cell 2
  have z3 : W2.cell? ⟨q, 3, none⟩ = some (.int .u64 0) := HQ2.out.cell 3
  have zf0 := HQ2.out.free 0
  have zf1 := HQ2.out.free 1
  have zf2 := HQ2.out.free 2
  have zf3 := HQ2.out.free 3
  obtain ⟨W4, hW4⟩ : ∃ W, W = ((((W2).setCell ⟨q, 0, none⟩ (.bool u.has)).setCell ⟨q, 1, none⟩ (.slice u.va u.vn u.vc)).setCell ⟨q, 2, none⟩ (.int .i64 u.home)).setCell ⟨q, 3, none⟩ (.int .u64 (u.count : Int)) := ⟨_, rfl⟩
  have hxW4 : Fr (fun k => k = q) W2 W4 := by
    rw [hW4]
    exact ((((Fr.refl (fun k => k = q) W2).setCell (p := ⟨q, 0, none⟩) (fun _ => rfl) _).setCell (p := ⟨q, 1, none⟩) (fun _ => rfl) _).setCell (p := ⟨q, 2, none⟩) (fun _ => rfl) _).setCell (p := ⟨q, 3, none⟩) (fun _ => rfl) _
  have HBW4 : Hid (Bk W4 q 38 #[.bool u.has, .slice u.va u.vn u.vc, .int .i64 u.home, .int .u64 (u.count : Int)]) := by
    show Bk _ _ _ _
    rw [hW4]
    refine Bk.cast (((((HQ2.out).put 0 (.bool u.has)).put 1 (.slice u.va u.vn u.vc)).put 2 (.int .i64 u.home)).put 3 (.int .u64 (u.count : Int))) ?_
    simp only [List.setIfInBounds_toArray, List.set_cons_zero, List.set_cons_succ]
  have HW4 := Lib.hid hW4
  have HX4 := Lib.hid hxW4
  clear hW4 hxW4
  go_wp2_with fail
  rw [← HW4.out]
  clear HW4
  have r0 : W4.cell? ⟨q, 0, none⟩ = some (.bool u.has) := HBW4.out.cell 0
  have r1 : W4.cell? ⟨q, 1, none⟩ = some (.slice u.va u.vn u.vc) := HBW4.out.cell 1
  have r2 : W4.cell? ⟨q, 2, none⟩ = some (.int .i64 u.home) := HBW4.out.cell 2
  have r3 : W4.cell? ⟨q, 3, none⟩ = some (.int .u64 (u.count : Int)) := HBW4.out.cell 3
  refine bodyPost_ret (v := vaR u) (by rw [results_cellQ rfl]; go_simp; rfl) rfl ?_
  have hsz := HP.out
  have hqe := HQE.out
  have hz0 := HF0.out.size
  have hb : ∀ k, (Value.slice A r.val.length c).ownBlock = some k → w0.heap.size ≤ k := fun k hk => (own_in HN.out.own (by rw [HN'.out]; exact hk)).1
  have hlt := HQ0.out.lt
  refine ⟨u, rfl, ⟨by rw [HU.out]; exact HR.out.has, by rw [HU.out]; exact HR.out.home, by rw [HU.out]; exact HR.out.count, by rw [HU.out]; exact HN'.out, ?_⟩, ((HF0.out.trans HN.out.fr).step HX2.out fun i hi e => by omega).step HX4.out fun i hi e => by omega⟩
  rw [HU.out]
  have h1 := own_base HN.out.own hz0
  rw [HN'.out] at h1 ⊢
  exact own_fr (own_fr h1 HX2.out fun k hk e => by have := hb k hk; omega) HX4.out fun k hk e => by have := hb k hk; omega
set_option maxRecDepth 100000 in
set_option maxHeartbeats 1000000 in
theorem sget_any (w : World) (g : Nat) (O : Nat → Prop) (n : Nat) (rs : List Rw) (h : Store w g O n rs) (key : Bs) (hk : key.length ≤ 1000000000) (hl : (rget n rs key).val.length ≤ 1000000000) :
    Calls Try.prog 16 #[.pointer (some ⟨g, 0, none⟩), .string (bstr key)] w (GetPost w (rget n rs key)) := by
  obtain ⟨q, hq⟩ : ∃ q, q = w.heap.size := ⟨_, rfl⟩
  obtain ⟨w0, hw0⟩ : ∃ w0, w0 = w.alloc (.cells #[.bool false, .slice none 0 0, .int .i64 0, .int .u64 0] 38) := ⟨_, rfl⟩
  have hf0 : Fr NoBlk w w0 := by rw [hw0]; exact (Fr.refl _ _).alloc _
  have HQ0 : Hid (Bk w0 q 38 #[.bool false, .slice none 0 0, .int .i64 0, .int .u64 0]) := by show Bk _ _ _ _; rw [hw0, hq]; exact Bk.new _ _ _
  obtain ⟨r, hr⟩ : ∃ r, r = rget n rs key := ⟨_, rfl⟩
  have HRC := Lib.hid (srecord_any w0 g O n rs (h.nofr hf0) key hk)
  rw [← hr] at HRC hl ⊢
  have HL := Lib.hid hl
  have HQ := Lib.hid hq
  have HW0 := Lib.hid hw0
  have HF0 := Lib.hid hf0
  clear h hk hl hq hw0 hf0 hr
  go_enter Try.func16, Try.ntmps16
  go_upto_region 1 with fail
  rw [← HW0.out, ← HQ.out]
  clear HW0
  go_wp2_with fail
  refine HRC.out.mono ?_
  clear HRC
  rintro e w1 ⟨v, rfl, hrd, hf1⟩
  have HC := Lib.hid (copied_any w1 v r hrd HL.out)
  have HQ1 := Lib.hid (HQ0.out.fr hf1 fun e => e)
  have HF1 := Lib.hid hf1
  unfold vaR
  clear hrd hf1
  go_wp2_with fail
  refine HC.out.mono ?_
  clear HC
  rintro e w2 ⟨u, rfl, hfr, hf2⟩
  have HFR := Lib.hid hfr
  have HF2 := Lib.hid hf2
  have HQ2 := Lib.hid (HQ1.out.fr hf2 fun e => e)
  unfold vaR
  clear hfr hf2
  have z0 : w2.cell? ⟨q, 0, none⟩ = some (.bool false) := HQ2.out.cell 0
  have z1 : w2.cell? ⟨q, 1, none⟩ = some (.slice none 0 0) := HQ2.out.cell 1
  have z2 : w2.cell? ⟨q, 2, none⟩ = some (.int .i64 0) := HQ2.out.cell 2
  have z3 : w2.cell? ⟨q, 3, none⟩ = some (.int .u64 0) := HQ2.out.cell 3
  have zf0 := HQ2.out.free 0
  have zf1 := HQ2.out.free 1
  have zf2 := HQ2.out.free 2
  have zf3 := HQ2.out.free 3
  obtain ⟨W4, hW4⟩ : ∃ W, W = ((((w2).setCell ⟨q, 0, none⟩ (.bool u.has)).setCell ⟨q, 1, none⟩ (.slice u.va u.vn u.vc)).setCell ⟨q, 2, none⟩ (.int .i64 u.home)).setCell ⟨q, 3, none⟩ (.int .u64 (u.count : Int)) := ⟨_, rfl⟩
  have hxW4 : Fr (fun k => k = q) w2 W4 := by
    rw [hW4]
    exact ((((Fr.refl (fun k => k = q) w2).setCell (p := ⟨q, 0, none⟩) (fun _ => rfl) _).setCell (p := ⟨q, 1, none⟩) (fun _ => rfl) _).setCell (p := ⟨q, 2, none⟩) (fun _ => rfl) _).setCell (p := ⟨q, 3, none⟩) (fun _ => rfl) _
  have HBW4 : Hid (Bk W4 q 38 #[.bool u.has, .slice u.va u.vn u.vc, .int .i64 u.home, .int .u64 (u.count : Int)]) := by
    show Bk _ _ _ _
    rw [hW4]
    refine Bk.cast (((((HQ2.out).put 0 (.bool u.has)).put 1 (.slice u.va u.vn u.vc)).put 2 (.int .i64 u.home)).put 3 (.int .u64 (u.count : Int))) ?_
    simp only [List.setIfInBounds_toArray, List.set_cons_zero, List.set_cons_succ]
  have HW4 := Lib.hid hW4
  have HX4 := Lib.hid hxW4
  clear hW4 hxW4
  go_wp2_with fail
  rw [← HW4.out]
  clear HW4
  have r0 : W4.cell? ⟨q, 0, none⟩ = some (.bool u.has) := HBW4.out.cell 0
  have r1 : W4.cell? ⟨q, 1, none⟩ = some (.slice u.va u.vn u.vc) := HBW4.out.cell 1
  have r2 : W4.cell? ⟨q, 2, none⟩ = some (.int .i64 u.home) := HBW4.out.cell 2
  have r3 : W4.cell? ⟨q, 3, none⟩ = some (.int .u64 (u.count : Int)) := HBW4.out.cell 3
  refine bodyPost_ret (v := vaR u) (by rw [results_cellQ rfl]; go_simp; rfl) rfl ?_
  have hsz := HF0.out.size
  have hs1 := HF1.out.size
  exact ⟨u, rfl, (HFR.out.fr HX4.out fun k hk e => Byt.no HQ2.out (by decide) (e ▸ hk)).low (by omega), ((HF0.out.trans HF1.out).trans HF2.out).step HX4.out fun i hi e => by have := HQ.out; omega⟩
set_option maxRecDepth 100000 in
set_option maxHeartbeats 400000 in
theorem isRow_any (w : World) (v : VaR) :
    Calls Try.prog 68 #[vaR v] w fun e w' => e = .returned (.bool (v.has || v.count != 0)) ∧ Fr NoBlk w w' := by
  obtain ⟨b, hb⟩ : ∃ b, b = v.has := ⟨_, rfl⟩
  have HB := Lib.hid hb
  unfold vaR
  rw [← hb]
  clear hb
  have HF : Hid (Fr NoBlk w (w.alloc (.cells #[.bool b, .slice v.va v.vn v.vc, .int .i64 v.home, .int .u64 (v.count : Int)] 38))) := (Fr.refl _ _).alloc _
  cases b with
  | true =>
    go_enter Try.func68, Try.ntmps68
    go_wp2_with fail
    go_ret
    exact ⟨by simp, HF.out⟩
  | false =>
    obtain ⟨c, hc⟩ : ∃ c, c = v.count := ⟨_, rfl⟩
    rw [← hc] at HF ⊢
    clear hc
    by_cases h0 : c = 0
    · subst h0
      go_enter Try.func68, Try.ntmps68
      go_wp2_with fail
      go_ret
      exact ⟨by simp, HF.out⟩
    · have h1 : ((c : Int) != 0) = true := by simp [h0]
      have H0 : Hid (¬ c = 0) := h0
      clear h0
      go_enter Try.func68, Try.ntmps68
      go_wp2_with fail
      go_ret
      exact ⟨by simp [H0.out], HF.out⟩
end Go.Proofs.Ytfifpgefdcgbgaa
