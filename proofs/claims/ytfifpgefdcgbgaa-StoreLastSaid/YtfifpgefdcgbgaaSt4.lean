/- keep, Put, Delete, Move. Conditions: at most 99999 rows; keys of at most 10^9 bytes. -/
import Derived.Test.YtfifpgefdcgbgaaSt3
import Derived.Test.YtfifpgefdcgbgaaN16R
import Derived.Deep.DeepCutAuto
namespace Go.Proofs.Ytfifpgefdcgbgaa
open Go.RowKit
theorem Stp.pre {w w1 w' : World} {o o' : Nat → Prop} (hf : Fr NoBlk w w1) (h : Stp w1 w' o o') : Stp w w' o o' :=
  ⟨(hf.mono fun _ _ e => e.elim).trans h.fr, fun b hb => (h.new b hb).imp id fun e => Nat.le_trans hf.size e⟩
theorem StoreIn.turned {w w' : World} {g gt n : Nat} {O OT OT' : Nat → Prop} {zs zs' : List Zr} (h : StoreIn w g gt O OT n zs) (ht : TreeR w' gt OT' (vz zs')) (hs : Stp w w' OT OT') (hr : ∀ z ∈ zs', Reads w z.2.1 z.2.2 ∧ z.2.2.count < 2 ^ 64) :
    ∃ O', Store w' g O' n (rz zs') ∧ Stp w w' O O' := by
  have hg := h.bk.lt
  refine ⟨fun b => b = g ∨ OT' b, ⟨gt, OT', zs', ⟨h.bk.fr hs.fr h.ne, ht, fun z hz => (hr z hz).1.fr hs.fr fun k hk hb => h.tr.nb hb hk, fun b => Iff.rfl, fun hb => ?_, h.n3, fun z hz => (hr z hz).2⟩, rfl⟩, ⟨hs.fr.mono fun b _ hb => (h.own b).2 (.inr hb), fun b hb => ?_⟩⟩
  · rcases hs.new g hb with e | e
    · exact h.ne e
    · omega
  · rcases hb with rfl | hb
    · exact .inl ((h.own _).2 (.inl rfl))
    · exact (hs.new b hb).imp (fun e => (h.own b).2 (.inr e)) id
def KeepPost (w : World) (g : Nat) (O : Nat → Prop) (n : Nat) (rs : List Rw) (e : Ending) (w' : World) : Prop := (∃ x, e = .returned x) ∧ ∃ O', Store w' g O' n rs ∧ Stp w w' O O'
theorem KeepPost.pre {w w1 w' : World} {g n : Nat} {O : Nat → Prop} {rs : List Rw} {e : Ending} (hf : Fr NoBlk w w1) (h : KeepPost w1 g O n rs e w') : KeepPost w g O n rs e w' := by
  obtain ⟨h1, O', h2, h3⟩ := h
  exact ⟨h1, O', h2, h3.pre hf⟩
set_option maxRecDepth 100000 in
set_option maxHeartbeats 1000000 in
theorem keep_any (w : World) (g : Nat) (O : Nat → Prop) (n : Nat) (rs : List Rw) (h : Store w g O n rs) (hlen : rs.length ≤ 99999) (key : Bs) (v : VaR) (r : Rec) (hr : Reads w v r) (hc : r.count < 2 ^ 64) :
    Calls Try.prog 56 #[.pointer (some ⟨g, 0, none⟩), .string (bstr key), vaR v] w (KeepPost w g O n (rset rs key r)) := by
  obtain ⟨gt, OT, zs, hs, rfl⟩ := h
  obtain ⟨p, hp⟩ : ∃ p, p = w.heap.size := ⟨_, rfl⟩
  obtain ⟨w0, hw0⟩ : ∃ w0, w0 = w.alloc (.cells #[.bool v.has, .slice v.va v.vn v.vc, .int .i64 v.home, .int .u64 (v.count : Int)] 38) := ⟨_, rfl⟩
  have hf0 : Fr NoBlk w w0 := by rw [hw0]; exact (Fr.refl _ _).alloc _
  have HP0 : Hid (Bk w0 p 38 #[.bool v.has, .slice v.va v.vn v.vc, .int .i64 v.home, .int .u64 (v.count : Int)]) := by show Bk _ _ _ _; rw [hw0, hp]; exact Bk.new _ _ _
  have HS0 := Lib.hid (hs.fr hf0 (fun _ _ e => e) fun _ _ e => e)
  have HR0 := Lib.hid (hr.nofr hf0)
  have HI := Lib.hid (isRow_any w0 v)
  have HF0 := Lib.hid hf0
  have HW0 := Lib.hid hw0
  have HP := Lib.hid hp
  have HC := Lib.hid hc
  have HLEN : Hid (zs.length ≤ 99999) := by show _ ≤ _; rw [← rz_len]; exact hlen
  have a0 : w0.cell? ⟨p, 0, none⟩ = some (.bool v.has) := HP0.out.cell 0
  have a1 : w0.cell? ⟨p, 1, none⟩ = some (.slice v.va v.vn v.vc) := HP0.out.cell 1
  have a2 : w0.cell? ⟨p, 2, none⟩ = some (.int .i64 v.home) := HP0.out.cell 2
  have a3 : w0.cell? ⟨p, 3, none⟩ = some (.int .u64 (v.count : Int)) := HP0.out.cell 3
  have HB : Hid ((v.has || v.count != 0) = (r.has || r.count != 0)) := by show _ = _; rw [hr.has, hr.count]
  clear hs hp hw0 hf0 hr hc hlen
  unfold vaR at HI ⊢
  go_enter Try.func56, Try.ntmps56
  go_upto_region 1 with fail
  rw [← HW0.out, ← HP.out]
  clear HW0
  go_wp2_with fail
  refine HI.out.mono ?_
  clear HI a0 a1 a2 a3
  rintro e w1 ⟨rfl, hf1⟩
  have HP1 := Lib.hid (HP0.out.fr hf1 fun e => e)
  have HS1 := Lib.hid (HS0.out.fr hf1 (fun _ _ e => e) fun _ _ e => e)
  have HR1 := Lib.hid (HR0.out.nofr hf1)
  have HF1 : Hid (Fr NoBlk w w1) := HF0.out.trans hf1
  have c1 : w1.cell? ⟨g, 1, none⟩ = some (.pointer (some ⟨gt, 0, none⟩)) := HS1.out.bk.cell 1
  clear hf1
  generalize hbb : (v.has || v.count != 0) = bb at *
  cases bb with
  | true =>
    have HPUT : Hid (∀ W, Fr NoBlk w1 W → Calls Try.prog 69 #[.pointer (some ⟨gt, 0, none⟩), .string (bstr key), .agg #[.bool v.has, .slice v.va v.vn v.vc, .int .i64 v.home, .int .u64 (v.count : Int)]] W fun e w' => ∃ x, e = .returned x ∧ Hid (KeepPost w g O n (rset (rz zs) key r) (.returned x) w')) := fun W hW => by
      have hT := HS1.out.fr hW (fun _ _ e => e) fun _ _ e => e
      refine (treePutR_any W gt OT (vz zs) hT.tr (by have := HLEN.out; rw [vz_len]; omega) key v).mono ?_
      rintro e w' ⟨old, had, O', rfl, hlk, ht, hst⟩
      have hrs : rset (rz zs) key r = rz (putL Op.bytesLess key (v, r) zs) := by
        rw [rz_put]
        unfold rset
        rw [if_pos HB.out.symm]
      rw [← vz_put key v r zs] at ht
      obtain ⟨O2, h1, h2⟩ := hT.turned ht hst fun z hz => by
        rcases mem_putL' hz with rfl | hz
        · exact ⟨HR1.out.nofr hW, HC.out⟩
        · exact ⟨hT.rd z hz, hT.cnt z hz⟩
      refine ⟨_, rfl, ⟨_, rfl⟩, O2, ?_, h2.pre (HF1.out.trans hW)⟩
      rw [hrs]
      exact h1
    have a0 : w1.cell? ⟨p, 0, none⟩ = some (.bool v.has) := HP1.out.cell 0
    have a1 : w1.cell? ⟨p, 1, none⟩ = some (.slice v.va v.vn v.vc) := HP1.out.cell 1
    have a2 : w1.cell? ⟨p, 2, none⟩ = some (.int .i64 v.home) := HP1.out.cell 2
    have a3 : w1.cell? ⟨p, 3, none⟩ = some (.int .u64 (v.count : Int)) := HP1.out.cell 3
    have c1d : w1.drew.cell? ⟨g, 1, none⟩ = some (.pointer (some ⟨gt, 0, none⟩)) := c1
    have d0 : w1.drew.cell? ⟨p, 0, none⟩ = some (.bool v.has) := (HP1.out.fr (Fr.refl NoBlk _).drew fun e => e).cell 0
    have d1 : w1.drew.cell? ⟨p, 1, none⟩ = some (.slice v.va v.vn v.vc) := (HP1.out.fr (Fr.refl NoBlk _).drew fun e => e).cell 1
    have d2 : w1.drew.cell? ⟨p, 2, none⟩ = some (.int .i64 v.home) := (HP1.out.fr (Fr.refl NoBlk _).drew fun e => e).cell 2
    have d3 : w1.drew.cell? ⟨p, 3, none⟩ = some (.int .u64 (v.count : Int)) := (HP1.out.fr (Fr.refl NoBlk _).drew fun e => e).cell 3
    go_wp2_with fail
    go_region_with (refine (HPUT.out _ ?_).mono ?_; (first | exact (Fr.refl _ _).drew | exact Fr.refl _ _); rintro e w2 ⟨x, rfl, HK⟩)
    all_goals
      go_wp2_with fail
      go_end0
      obtain ⟨_, O2, h1, h2⟩ := HK.out
      exact ⟨⟨_, rfl⟩, O2, h1, h2⟩
  | false =>
    have HDEL : Hid (Calls Try.prog 70 #[.pointer (some ⟨gt, 0, none⟩), .string (bstr key)] w1 fun e w' => ∃ x, e = .returned x ∧ Hid (KeepPost w g O n (rset (rz zs) key r) (.returned x) w')) := by
      have hT := HS1.out
      refine (treeDelR_any w1 gt OT (vz zs) hT.tr (by have := HLEN.out; rw [vz_len]; omega) key).mono ?_
      rintro e w' ⟨old, had, O', rfl, hlk, ht, hst⟩
      have hrs : rset (rz zs) key r = rz (delL Op.bytesLess key zs) := by
        rw [rz_del]
        unfold rset
        rw [if_neg (by rw [← HB.out]; exact Bool.false_ne_true)]
      rw [← vz_del key zs] at ht
      obtain ⟨O2, h1, h2⟩ := hT.turned ht hst fun z hz => ⟨hT.rd z (mem_delL' hz), hT.cnt z (mem_delL' hz)⟩
      refine ⟨_, rfl, ⟨_, rfl⟩, O2, ?_, h2.pre HF1.out⟩
      rw [hrs]
      exact h1
    go_wp2_with fail
    refine HDEL.out.mono ?_
    rintro e w2 ⟨x, rfl, HK⟩
    clear HDEL
    go_wp2_with fail
    go_end0
    obtain ⟨_, O2, h1, h2⟩ := HK.out
    exact ⟨⟨_, rfl⟩, O2, h1, h2⟩
end Go.Proofs.Ytfifpgefdcgbgaa
