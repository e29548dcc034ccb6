/- Put, Delete, Move. Conditions: at most 99999 rows; keys and values of at most 10^9 bytes. -/
import Derived.Test.YtfifpgefdcgbgaaSt4
namespace Go.Proofs.Ytfifpgefdcgbgaa
open Go.RowKit
theorem rget_cnt {n : Int} {rs : List Rw} {key : Bs} (h : ∀ x ∈ rs, x.2.count < 2 ^ 64) : (rget n rs key).count < 2 ^ 64 := by
  unfold rget
  cases hf : rs.find? fun x => x.1 == key with
  | none => show (0 : Nat) < 2 ^ 64; omega
  | some x => exact h x (List.mem_of_find?_eq_some hf)
theorem KeepPost.box {w W W' : World} {g n : Nat} {O : Nat → Prop} {rs : List Rw} {e : Ending} {p : Nat} (h : KeepPost W g O n rs e W') (hf : Fr (fun k => k = p) w W) (hp : w.heap.size ≤ p) : KeepPost w g O n rs e W' := by
  obtain ⟨h1, O', h2, h3⟩ := h
  exact ⟨h1, O', h2, ⟨(hf.mono (D := O) fun b hb e => by omega).trans h3.fr, fun b hb => (h3.new b hb).imp id fun e => Nat.le_trans hf.size e⟩⟩
/-- what lies apart from a box. -/
theorem KeepPost.boxed {w w2 W W' : World} {g n : Nat} {O : Nat → Prop} {rs : List Rw} {e : Ending} {p : Nat} (h : KeepPost W g O n rs e W') (hf : Fr NoBlk w w2) (hx : Fr (fun k => k = p) w2 W) (hp : w.heap.size ≤ p) : KeepPost w g O n rs e W' :=
  h.box (p := p) ((hf.mono fun _ _ e => e.elim).trans hx) hp
set_option maxRecDepth 100000 in
set_option maxHeartbeats 1000000 in
theorem sput_any (w : World) (g : Nat) (O : Nat → Prop) (n : Nat) (rs : List Rw) (h : Store w g O n rs) (hlen : rs.length ≤ 99999) (key : Bs) (hk : key.length ≤ 1000000000) (A : Option Addr) (m c : Nat) (l : Bs) (hm : m = l.length) (hA : A = none → c = 0) (hl : Rd w A (cb l)) (hll : l.length ≤ 1000000000) :
    Calls Try.prog 30 #[.pointer (some ⟨g, 0, none⟩), .string (bstr key), .slice A m c] w (KeepPost w g O n (rset rs key ⟨true, l, (rget n rs key).home, (rget n rs key).count⟩)) := by
  have HRC := Lib.hid (srecord_any w g O n rs h key hk)
  obtain ⟨r, hr⟩ : ∃ r, r = rget n rs key := ⟨_, rfl⟩
  rw [← hr] at HRC ⊢
  have HST := Lib.hid h
  have HLEN := Lib.hid hlen
  have HCT : Hid (r.count < 2 ^ 64) := by
    show _ < _
    rw [hr]
    exact rget_cnt h.cnt
  have HL := Lib.hid (And.intro hm (And.intro hA (And.intro hl hll)))
  clear h hlen hk hm hA hl hll hr
  go_enter Try.func30, Try.ntmps30
  go_wp2_with fail
  refine HRC.out.mono ?_
  clear HRC
  rintro e w1 ⟨v, rfl, hrd, hf1⟩
  unfold vaR
  obtain ⟨p, hp⟩ : ∃ p, p = w1.heap.size := ⟨_, rfl⟩
  obtain ⟨w2, hw2⟩ : ∃ W, W = w1.alloc (.cells #[.bool v.has, .slice v.va v.vn v.vc, .int .i64 v.home, .int .u64 (v.count : Int)] 38) := ⟨_, rfl⟩
  have hf2 : Fr NoBlk w w2 := by rw [hw2]; exact hf1.alloc _
  have HP2 : Hid (Bk w2 p 38 #[.bool v.has, .slice v.va v.vn v.vc, .int .i64 v.home, .int .u64 (v.count : Int)]) := by show Bk _ _ _ _; rw [hw2, hp]; exact Bk.new _ _ _
  have HRD := Lib.hid (hrd.nofr (show Fr NoBlk w1 w2 by rw [hw2]; exact (Fr.refl _ _).alloc _))
  have HF2 := Lib.hid hf2
  have HPW : Hid (w.heap.size ≤ p) := by show _ ≤ _; rw [hp]; exact hf1.size
  have HST2 := Lib.hid (HST.out.nofr hf2)
  have HGP : Hid (∀ b, O b → b < p) := fun b hb => by have := HST.out.lt hb; have := HPW.out; omega
  have HW2 := Lib.hid hw2
  have HP := Lib.hid hp
  have HC := Lib.hid (clone_any w2 A m c l HL.out.1 (HL.out.2.2.1.nofr hf2) HL.out.2.1 HL.out.2.2.2)
  clear hrd hf1 hf2 hp hw2
  go_upto_region 1 with fail
  rw [← HW2.out, ← HP.out]
  clear HW2 HP
  go_wp2_with fail
  refine HC.out.mono ?_
  clear HC
  rintro e w3 ⟨v', rfl, hn⟩
  obtain ⟨B, d, rfl, hbd, hbn⟩ := own_form hn.own
  obtain ⟨k, hkk⟩ : ∃ k, k = l.length := ⟨_, rfl⟩
  have HN := Lib.hid hn
  rw [← hkk] at HN ⊢
  have HKK := Lib.hid hkk
  obtain ⟨u, hu⟩ : ∃ u : VaR, u = ⟨true, B, k, d, v.home, v.count⟩ := ⟨_, rfl⟩
  have HP3 := Lib.hid (HP2.out.fr hn.fr fun e => e)
  obtain ⟨W4, hW4⟩ : ∃ W, W = (w3.setCell ⟨p, 0, none⟩ (.bool true)).setCell ⟨p, 1, none⟩ (.slice B k d) := ⟨_, rfl⟩
  have hx4 : Fr (fun j => j = p) w3 W4 := by rw [hW4]; exact ((Fr.refl (fun j => j = p) w3).setCell (p := ⟨p, 0, none⟩) (fun _ => rfl) _).setCell (p := ⟨p, 1, none⟩) (fun _ => rfl) _
  have HP4 : Hid (Bk W4 p 38 #[.bool u.has, .slice u.va u.vn u.vc, .int .i64 u.home, .int .u64 (u.count : Int)]) := by
    show Bk _ _ _ _
    rw [hW4, hu]
    refine Bk.cast ((HP3.out.put 0 (.bool true)).put 1 (.slice B k d)) ?_
    simp only [List.setIfInBounds_toArray, List.set_cons_zero, List.set_cons_succ]
  have hnb : ∀ j, Byt w3 j → ¬ j = p := fun j hj e => Byt.no HP3.out (by decide) (e ▸ hj)
  have HKP := Lib.hid (keep_any W4 g O n rs ((HST2.out.nofr hn.fr).fr hx4 (fun b hb e => by have := HGP.out b hb; omega) hnb) HLEN.out key u ⟨true, l, r.home, r.count⟩
    (by
      rw [hu]
      have hrw : Reads w3 ⟨true, B, k, d, v.home, v.count⟩ ⟨true, l, r.home, r.count⟩ := by
        have hown : w3.ownsRow w2.heap.size 5 1 (.slice B k d) l.length (cb l) := HN.out.own
        have ho2 : w3.ownsRow w2.heap.size 5 1 (.slice B k d) k (cb l) := by rw [hkk] at hown ⊢; exact hown
        exact ⟨rfl, HRD.out.home, HRD.out.count, hkk, fun e => hbn e, Rd.of_own ho2, fun j hj => Byt.own ho2 (ablk_own hj)⟩
      exact hrw.fr hx4 hnb) HCT.out)
  have HX4 : Hid (Fr (fun j => j = p) w2 W4) := (hn.fr.mono fun _ _ e => e.elim).trans hx4
  have q0 : w3.cell? ⟨p, 0, none⟩ = some (.bool v.has) := HP3.out.cell 0
  have q1 : w3.cell? ⟨p, 1, none⟩ = some (.slice v.va v.vn v.vc) := HP3.out.cell 1
  have qf0 := HP3.out.free 0
  have qf1 := HP3.out.free 1
  have HW4 := Lib.hid hW4
  clear hn hkk hu hW4 hx4 hnb hbd hbn
  go_upto_region 2 with fail
  rw [← HW4.out]
  clear HW4 q0 q1 qf0 qf1
  have a0 : W4.cell? ⟨p, 0, none⟩ = some (.bool u.has) := HP4.out.cell 0
  have a1 : W4.cell? ⟨p, 1, none⟩ = some (.slice u.va u.vn u.vc) := HP4.out.cell 1
  have a2 : W4.cell? ⟨p, 2, none⟩ = some (.int .i64 u.home) := HP4.out.cell 2
  have a3 : W4.cell? ⟨p, 3, none⟩ = some (.int .u64 (u.count : Int)) := HP4.out.cell 3
  unfold vaR at HKP
  go_wp2_with fail
  refine HKP.out.mono ?_
  clear HKP
  rintro e w5 ⟨⟨x, rfl⟩, hkp⟩
  have HKP := Lib.hid hkp
  clear hkp
  go_wp2_with fail
  go_end0
  obtain ⟨O2, h1, h2⟩ := HKP.out
  have hh : KeepPost W4 g O n (rset rs key ⟨true, l, r.home, r.count⟩) (.returned x) w5 := ⟨⟨_, rfl⟩, O2, h1, h2⟩
  obtain ⟨_, O3, h3, h4⟩ := hh.boxed HF2.out HX4.out HPW.out
  exact ⟨⟨_, rfl⟩, O3, h3, h4⟩
set_option maxRecDepth 100000 in
set_option maxHeartbeats 1000000 in
theorem sdel_any (w : World) (g : Nat) (O : Nat → Prop) (n : Nat) (rs : List Rw) (h : Store w g O n rs) (hlen : rs.length ≤ 99999) (key : Bs) (hk : key.length ≤ 1000000000) :
    Calls Try.prog 31 #[.pointer (some ⟨g, 0, none⟩), .string (bstr key)] w (KeepPost w g O n (rset rs key ⟨false, [], (rget n rs key).home, (rget n rs key).count⟩)) := by
  have HRC := Lib.hid (srecord_any w g O n rs h key hk)
  obtain ⟨r, hr⟩ : ∃ r, r = rget n rs key := ⟨_, rfl⟩
  rw [← hr] at HRC ⊢
  have HST := Lib.hid h
  have HLEN := Lib.hid hlen
  have HCT : Hid (r.count < 2 ^ 64) := by
    show _ < _
    rw [hr]
    exact rget_cnt h.cnt
  clear h hlen hk hr
  go_enter Try.func31, Try.ntmps31
  go_wp2_with fail
  refine HRC.out.mono ?_
  clear HRC
  rintro e w1 ⟨v, rfl, hrd, hf1⟩
  unfold vaR
  obtain ⟨p, hp⟩ : ∃ p, p = w1.heap.size := ⟨_, rfl⟩
  obtain ⟨w2, hw2⟩ : ∃ W, W = w1.alloc (.cells #[.bool v.has, .slice v.va v.vn v.vc, .int .i64 v.home, .int .u64 (v.count : Int)] 38) := ⟨_, rfl⟩
  have hf2 : Fr NoBlk w w2 := by rw [hw2]; exact hf1.alloc _
  have HP2 : Hid (Bk w2 p 38 #[.bool v.has, .slice v.va v.vn v.vc, .int .i64 v.home, .int .u64 (v.count : Int)]) := by show Bk _ _ _ _; rw [hw2, hp]; exact Bk.new _ _ _
  have HRD := Lib.hid (hrd.nofr (show Fr NoBlk w1 w2 by rw [hw2]; exact (Fr.refl _ _).alloc _))
  have HF2 := Lib.hid hf2
  have HPW : Hid (w.heap.size ≤ p) := by show _ ≤ _; rw [hp]; exact hf1.size
  have HST2 := Lib.hid (HST.out.nofr hf2)
  have HGP : Hid (∀ b, O b → b < p) := fun b hb => by have := HST.out.lt hb; have := HPW.out; omega
  have HW2 := Lib.hid hw2
  have HP := Lib.hid hp
  obtain ⟨u, hu⟩ : ∃ u : VaR, u = ⟨false, none, 0, 0, v.home, v.count⟩ := ⟨_, rfl⟩
  obtain ⟨W4, hW4⟩ : ∃ W, W = (w2.setCell ⟨p, 0, none⟩ (.bool false)).setCell ⟨p, 1, none⟩ (.slice none 0 0) := ⟨_, rfl⟩
  have hx4 : Fr (fun j => j = p) w2 W4 := by rw [hW4]; exact ((Fr.refl (fun j => j = p) w2).setCell (p := ⟨p, 0, none⟩) (fun _ => rfl) _).setCell (p := ⟨p, 1, none⟩) (fun _ => rfl) _
  have HP4 : Hid (Bk W4 p 38 #[.bool u.has, .slice u.va u.vn u.vc, .int .i64 u.home, .int .u64 (u.count : Int)]) := by
    show Bk _ _ _ _
    rw [hW4, hu]
    refine Bk.cast ((HP2.out.put 0 (.bool false)).put 1 (.slice none 0 0)) ?_
    simp only [List.setIfInBounds_toArray, List.set_cons_zero, List.set_cons_succ]
  have hnb : ∀ j, Byt w2 j → ¬ j = p := fun j hj e => Byt.no HP2.out (by decide) (e ▸ hj)
  have HKP := Lib.hid (keep_any W4 g O n rs (HST2.out.fr hx4 (fun b hb e => by have := HGP.out b hb; omega) hnb) HLEN.out key u ⟨false, [], r.home, r.count⟩
    (by
      rw [hu]
      exact ⟨rfl, HRD.out.home, HRD.out.count, rfl, fun _ => rfl, Rd.none_ _ _, fun k hk => by obtain ⟨x, hx, _⟩ := hk; cases hx⟩) HCT.out)
  have HX4 := Lib.hid hx4
  have q0 : w2.cell? ⟨p, 0, none⟩ = some (.bool v.has) := HP2.out.cell 0
  have q1 : w2.cell? ⟨p, 1, none⟩ = some (.slice v.va v.vn v.vc) := HP2.out.cell 1
  have qf0 := HP2.out.free 0
  have qf1 := HP2.out.free 1
  have HW4 := Lib.hid hW4
  clear hu hW4 hx4 hnb hrd hf1 hf2 hp hw2
  go_upto_region 1 with fail
  rw [← HW2.out, ← HP.out]
  clear HW2 HP
  go_upto_region 2 with fail
  rw [← HW4.out]
  clear HW4 q0 q1 qf0 qf1
  have a0 : W4.cell? ⟨p, 0, none⟩ = some (.bool u.has) := HP4.out.cell 0
  have a1 : W4.cell? ⟨p, 1, none⟩ = some (.slice u.va u.vn u.vc) := HP4.out.cell 1
  have a2 : W4.cell? ⟨p, 2, none⟩ = some (.int .i64 u.home) := HP4.out.cell 2
  have a3 : W4.cell? ⟨p, 3, none⟩ = some (.int .u64 (u.count : Int)) := HP4.out.cell 3
  unfold vaR at HKP
  go_wp2_with fail
  refine HKP.out.mono ?_
  clear HKP
  rintro e w5 ⟨⟨x, rfl⟩, hkp⟩
  have HKP := Lib.hid hkp
  clear hkp
  go_wp2_with fail
  go_end0
  obtain ⟨O2, h1, h2⟩ := HKP.out
  have hh : KeepPost W4 g O n (rset rs key ⟨false, [], r.home, r.count⟩) (.returned x) w5 := ⟨⟨_, rfl⟩, O2, h1, h2⟩
  obtain ⟨_, O3, h3, h4⟩ := hh.boxed HF2.out HX4.out HPW.out
  exact ⟨⟨_, rfl⟩, O3, h3, h4⟩
end Go.Proofs.Ytfifpgefdcgbgaa
