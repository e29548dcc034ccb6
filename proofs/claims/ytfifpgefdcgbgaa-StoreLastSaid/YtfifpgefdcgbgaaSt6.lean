/- Move. Conditions: at most 99999 rows; keys of at most 10^9 bytes. -/
import Derived.Test.YtfifpgefdcgbgaaSt5
namespace Go.Proofs.Ytfifpgefdcgbgaa
open Go.RowKit
/-- what a Move answers, and what it leaves. -/
def moveE (n : Nat) (rs : List Rw) (key : Bs) (home : Int) : Int := if home < 0 ∨ (n : Int) ≤ home then 1 else if (rget n rs key).count = 18446744073709551615 then 111 else 0
def moveR (n : Nat) (rs : List Rw) (key : Bs) (home : Int) : List Rw :=
  if moveE n rs key home = 0 then rset rs key ⟨(rget n rs key).has, (rget n rs key).val, home, (rget n rs key).count + 1⟩ else rs
def MovePost (w : World) (g : Nat) (O : Nat → Prop) (n : Nat) (rs : List Rw) (key : Bs) (home : Int) (e : Ending) (w' : World) : Prop :=
  e = .returned (.int .i64 (moveE n rs key home)) ∧ ∃ O', Store w' g O' n (moveR n rs key home) ∧ Stp w w' O O'
theorem Store.stay {w w' : World} {g n : Nat} {O : Nat → Prop} {rs : List Rw} (h : Store w g O n rs) (hf : Fr NoBlk w w') : ∃ O', Store w' g O' n rs ∧ Stp w w' O O' :=
  ⟨O, h.nofr hf, ⟨hf.mono fun _ _ e => e.elim, fun _b hb => .inl hb⟩⟩
set_option maxRecDepth 100000 in
set_option maxHeartbeats 1000000 in
theorem smove_any (w : World) (g : Nat) (O : Nat → Prop) (n : Nat) (rs : List Rw) (h : Store w g O n rs) (hlen : rs.length ≤ 99999) (key : Bs) (hk : key.length ≤ 1000000000) (home : Int) :
    Calls Try.prog 29 #[.pointer (some ⟨g, 0, none⟩), .string (bstr key), .int .i64 home] w (MovePost w g O n rs key home) := by
  have hE0 : ∀ r, r = rget n rs key → moveE n rs key home = if home < 0 ∨ (n : Int) ≤ home then 1 else if r.count = 18446744073709551615 then 111 else 0 := fun r e => by rw [e]; rfl
  have hR0 : ∀ r, r = rget n rs key → moveR n rs key home = if moveE n rs key home = 0 then rset rs key ⟨r.has, r.val, home, r.count + 1⟩ else rs := fun r e => by rw [e]; rfl
  unfold MovePost
  have HE := Lib.hid (hE0 _ rfl)
  have HRR := Lib.hid (hR0 _ rfl)
  clear hE0 hR0
  have HRC := Lib.hid (srecord_any w g O n rs h key hk)
  obtain ⟨r, hr⟩ : ∃ r, r = rget n rs key := ⟨_, rfl⟩
  rw [← hr] at HRC HE HRR
  have HST := Lib.hid h
  have HLEN := Lib.hid hlen
  have HCT : Hid (r.count < 2 ^ 64) := by
    show _ < _
    rw [hr]
    exact rget_cnt h.cnt
  clear h hlen hk hr
  go_enter Try.func29, Try.ntmps29
  go_wp2_with fail
  refine HRC.out.mono ?_
  clear HRC
  rintro e w1 ⟨v, rfl, hrd, hf1⟩
  unfold vaR
  obtain ⟨p, hp⟩ : ∃ p, p = w1.heap.size := ⟨_, rfl⟩
  obtain ⟨w2, hw2⟩ : ∃ W, W = w1.alloc (.cells #[.bool v.has, .slice v.va v.vn v.vc, .int .i64 v.home, .int .u64 (v.count : Int)] 38) := ⟨_, rfl⟩
  have hf2 : Fr NoBlk w w2 := by rw [hw2]; exact hf1.alloc _
  have HP2 : Hid (Bk w2 p 38 #[.bool v.has, .slice v.va v.vn v.vc, .int .i64 v.home, .int .u64 (v.count : Int)]) := by show Bk _ _ _ _; rw [hw2, hp]; exact Bk.new _ _ _
  have HRD := Lib.hid (hrd.nofr (show Fr NoBlk w1 w2 by rw [hw2]; exact (Fr.refl _ _).alloc _))
  have HF2 := Lib.hid hf2
  have HPW : Hid (w.heap.size ≤ p) := by show _ ≤ _; rw [hp]; exact hf1.size
  have HST2 := Lib.hid (HST.out.nofr hf2)
  have HGP : Hid (∀ b, O b → b < p) := fun b hb => by have := HST.out.lt hb; have := HPW.out; omega
  have HW2 := Lib.hid hw2
  have HP := Lib.hid hp
  clear hrd hf1 hf2 hp hw2
  go_upto_region 2 with fail
  rw [← HW2.out, ← HP.out]
  clear HW2 HP
  have c0 : w2.cell? ⟨g, 0, none⟩ = some (.int .i64 (n : Int)) := by obtain ⟨gt, OT, zs, hs, _⟩ := HST2.out; exact hs.bk.cell 0
  by_cases h0 : home < 0
  · have HEE : Hid (moveE n rs key home = 1) := HE.out.trans (if_pos (.inl h0))
    go_wp2_with fail
    go_ret
    refine ⟨by rw [HEE.out]; rfl, ?_⟩
    rw [HRR.out, HEE.out]
    exact HST.out.stay HF2.out
  by_cases hn : (n : Int) ≤ home
  · have HEE : Hid (moveE n rs key home = 1) := HE.out.trans (if_pos (.inr hn))
    go_wp2_with fail
    go_ret
    refine ⟨by rw [HEE.out]; rfl, ?_⟩
    rw [HRR.out, HEE.out]
    exact HST.out.stay HF2.out
  have a0 : w2.cell? ⟨p, 0, none⟩ = some (.bool v.has) := HP2.out.cell 0
  have a1 : w2.cell? ⟨p, 1, none⟩ = some (.slice v.va v.vn v.vc) := HP2.out.cell 1
  have a2 : w2.cell? ⟨p, 2, none⟩ = some (.int .i64 v.home) := HP2.out.cell 2
  have a3 : w2.cell? ⟨p, 3, none⟩ = some (.int .u64 (v.count : Int)) := HP2.out.cell 3
  by_cases hc : r.count = 18446744073709551615
  · have HEE : Hid (moveE n rs key home = 111) := HE.out.trans ((if_neg (by omega)).trans (if_pos hc))
    have hcv : (v.count : Int) = 18446744073709551615 := by rw [HRD.out.count, hc]; rfl
    have HNN : Hid (¬ home < 0 ∧ ¬ (n : Int) ≤ home) := ⟨h0, hn⟩
    have hcb : ((v.count : Int) == 18446744073709551615) = true := by rw [hcv]; rfl
    go_wp2_with fail
    go_ret
    refine ⟨by rw [HEE.out]; rfl, ?_⟩
    rw [HRR.out, HEE.out]
    exact HST.out.stay HF2.out
  have HEE : Hid (moveE n rs key home = 0) := HE.out.trans ((if_neg (by omega)).trans (if_neg hc))
  have hcv : ¬ v.count = 18446744073709551615 := by rw [HRD.out.count]; exact hc
  have hcb : ((v.count : Int) == 18446744073709551615) = false := beq_eq_false_iff_ne.2 (by omega)
  have hwr : ((v.count : Int) + 1) % 18446744073709551616 = (v.count : Int) + 1 := by have h1 := HRD.out.count; have h2 := HCT.out; omega
  have hwr2 : IntKind.u64.wrap ((v.count : Int) + 1) = (v.count : Int) + 1 := hwr
  have HC1 : Hid (r.count + 1 < 2 ^ 64) := by have h2 := HCT.out; show _ < _; omega
  obtain ⟨u, hu⟩ : ∃ u : VaR, u = ⟨v.has, v.va, v.vn, v.vc, home, v.count + 1⟩ := ⟨_, rfl⟩
  obtain ⟨W3, hW3⟩ : ∃ W, W = w2.setCell ⟨p, 2, none⟩ (.int .i64 home) := ⟨_, rfl⟩
  have hx3 : Fr (fun j => j = p) w2 W3 := by rw [hW3]; exact (Fr.refl (fun j => j = p) w2).setCell (p := ⟨p, 2, none⟩) (fun _ => rfl) _
  have HP3 : Hid (Bk W3 p 38 #[.bool v.has, .slice v.va v.vn v.vc, .int .i64 home, .int .u64 (v.count : Int)]) := by show Bk _ _ _ _; rw [hW3]; exact HP2.out.put 2 _
  obtain ⟨W4, hW4⟩ : ∃ W, W = W3.setCell ⟨p, 3, none⟩ (.int .u64 ((v.count : Int) + 1)) := ⟨_, rfl⟩
  have hx4 : Fr (fun j => j = p) w2 W4 := by rw [hW4]; exact hx3.setCell (p := ⟨p, 3, none⟩) (fun _ => rfl) _
  have HP4 : Hid (Bk W4 p 38 #[.bool u.has, .slice u.va u.vn u.vc, .int .i64 u.home, .int .u64 (u.count : Int)]) := by
    show Bk _ _ _ _
    rw [hW4, hu]
    have e1 : ((v.count + 1 : Nat) : Int) = (v.count : Int) + 1 := by omega
    dsimp only
    rw [e1]
    refine Bk.cast (HP3.out.put 3 (.int .u64 ((v.count : Int) + 1))) ?_
    simp only [List.setIfInBounds_toArray, List.set_cons_zero, List.set_cons_succ]
  have hnb : ∀ j, Byt w2 j → ¬ j = p := fun j hj e => Byt.no HP2.out (by decide) (e ▸ hj)
  have HKP := Lib.hid (keep_any W4 g O n rs (HST2.out.fr hx4 (fun b hb e => by have := HGP.out b hb; omega) hnb) HLEN.out key u ⟨r.has, r.val, home, r.count + 1⟩
    (by
      rw [hu]
      have h := HRD.out.fr hx4 hnb
      exact ⟨h.has, rfl, by show v.count + 1 = r.count + 1; rw [h.count], h.len, h.nil, h.rd, h.byt⟩) HC1.out)
  have HX4 := Lib.hid hx4
  have b2 := HP2.out.free 2
  have d3 : W3.cell? ⟨p, 3, none⟩ = some (.int .u64 (v.count : Int)) := HP3.out.cell 3
  have e3 := HP3.out.free 3
  have HW3 := Lib.hid hW3
  have HW4 := Lib.hid hW4
  have HWR := Lib.hid hwr
  have HNN : Hid (¬ home < 0 ∧ ¬ (n : Int) ≤ home) := ⟨h0, hn⟩
  have hn' : home < (n : Int) := by omega
  clear hu hW3 hW4 hx3 hx4 hnb hc hcv hn hwr
  go_upto_region 7 with fail
  rw [← HW3.out]
  clear HW3 c0 a0 a1 a2 a3 b2
  go_upto_region 8 with fail
  rw [← HW4.out]
  clear HW4 d3 e3
  have a0 : W4.cell? ⟨p, 0, none⟩ = some (.bool u.has) := HP4.out.cell 0
  have a1 : W4.cell? ⟨p, 1, none⟩ = some (.slice u.va u.vn u.vc) := HP4.out.cell 1
  have a2 : W4.cell? ⟨p, 2, none⟩ = some (.int .i64 u.home) := HP4.out.cell 2
  have a3 : W4.cell? ⟨p, 3, none⟩ = some (.int .u64 (u.count : Int)) := HP4.out.cell 3
  unfold vaR at HKP
  go_wp2_with fail
  refine HKP.out.mono ?_
  clear HKP
  rintro e w5 ⟨⟨x, rfl⟩, hkp⟩
  have HKP := Lib.hid hkp
  clear hkp
  go_wp2_with fail
  go_ret
  obtain ⟨O2, h1, h2⟩ := HKP.out
  have hh : KeepPost W4 g O n (rset rs key ⟨r.has, r.val, home, r.count + 1⟩) (.returned x) w5 := ⟨⟨_, rfl⟩, O2, h1, h2⟩
  obtain ⟨_, O3, h3, h4⟩ := hh.boxed HF2.out HX4.out HPW.out
  refine ⟨by rw [HEE.out]; rfl, O3, ?_, h4⟩
  rw [HRR.out, if_pos HEE.out]
  exact h3
end Go.Proofs.Ytfifpgefdcgbgaa
