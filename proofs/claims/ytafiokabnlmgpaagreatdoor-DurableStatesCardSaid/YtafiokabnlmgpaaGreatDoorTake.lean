/- The log's take: the records with which a part's bytes begin. Conditions: lengths; the bytes lie in other memory than the disk and the log. -/
import Derived.Test.YtafiokabnlmgpaaGreatDoorFile
namespace Go.Proofs.YtafiokabnlmgpaaGreatDoor
open Go.RowKit Go.Maps

theorem bytesInfo : (Tryz.prog.info? 55).map (fun i => (i.zero, i.size, i.bytes)) = some (some (.slice none 0 0), 1, 24) := by kernel_rfl
def PL.with (L : PL) (rs : List Bs) : PL := { L with recs := L.recs ++ rs }
theorem WL.tab {w wr : World} {gd gl : Nat} {p : PD} {L : PL} {S : Nat → Prop} (h : WL w wr gd p gl L S) (ht : Tab w) : Tab wr := ht.fr h.fr fun h => h

/-- how far the bytes are read. -/
structure TakeAt (w wr w' : World) (gd gl : Nat) (p : PD) (L : PL) (S : Nat → Prop) (data : Bs) (at_ : Nat) (R : List Bs) : Prop where
  wl : WL w w' gd p gl (L.with R) S
  fr : Fr (Loose w S) wr w'
  rd : parse data = (R ++ (parse (data.drop at_)).1, at_ + (parse (data.drop at_)).2)
  le : at_ ≤ data.length
  few : R.length ≤ at_
theorem TakeAt.stop {w wr w' : World} {gd gl : Nat} {p : PD} {L : PL} {S : Nat → Prop} {data : Bs} {at_ : Nat} {R : List Bs} (h : TakeAt w wr w' gd gl p L S data at_ R) (h0 : parse (data.drop at_) = ([], 0)) : parse data = (R, at_) := by
  rw [h.rd, h0, List.append_nil, Nat.add_zero]

def TakePost (w wr : World) (gd gl : Nat) (p : PD) (L : PL) (S : Nat → Prop) (data : Bs) (e : Ending) (w' : World) : Prop := e = .returned (.int .i64 (parse data).2) ∧ WL w w' gd p gl (L.with (parse data).1) S ∧ Fr (Loose w S) wr w'
theorem TakeAt.post {w wr w' : World} {gd gl : Nat} {p : PD} {L : PL} {S : Nat → Prop} {data : Bs} {at_ : Nat} {R : List Bs} (h : TakeAt w wr w' gd gl p L S data at_ R) (h0 : parse (data.drop at_) = ([], 0)) : TakePost w wr gd gl p L S data (.returned (.int .i64 at_)) w' := by
  have e := h.stop h0
  unfold TakePost
  rw [e]
  exact ⟨rfl, h.wl, h.fr⟩

theorem TakeAt.next {w wr w1 w2 : World} {gd gl : Nat} {p : PD} {L : PL} {S : Nat → Prop} {data : Bs} {k : Nat} {R : List Bs} (h : TakeAt w wr w1 gd gl p L S data k R) {ub : Bs} {us : Nat} (hu : unfr (data.drop k) = (ub, us, 0)) (hw : WL w w2 gd p gl (L.with (R ++ [ub])) S) (hf : Fr (Loose w S) w1 w2) : TakeAt w wr w2 gd gl p L S data (k + us) (R ++ [ub]) := by
  have ho := unfr_ok (data.drop k) (by rw [hu])
  rw [hu, List.length_drop] at ho
  dsimp only at ho
  have hp := parse_ok (data.drop k) (by rw [hu])
  rw [hu] at hp
  dsimp only at hp
  have hle := h.le
  refine ⟨hw, h.fr.trans hf, ?_, by omega, ?_⟩
  · rw [h.rd, hp, List.drop_drop]
    rw [List.append_assoc]
    show (R ++ (ub :: _), k + (us + _)) = (R ++ ([ub] ++ _), k + us + _)
    rw [Nat.add_assoc]
    rfl
  · have := h.few
    rw [List.length_append]
    show R.length + 1 ≤ k + us
    omega
/-- a record is put in. -/
theorem WL.push {w wr w1 w2 w3 : World} {gd gl : Nat} {p : PD} {L : PL} {S : Nat → Prop} {g : Lg} (hg : g.pl = L) (h : LgIn wr w.heap.size gd gl g) (ha : AtS w wr gd p (Mine gl g S)) (hs : ∀ k, S k → ¬ LBlks gl g k) (hl : ∀ k, S k → k < wr.heap.size) {q : Prt} (hq : q.2.2.length ≤ 4096) (hn : w1.ownsRow wr.heap.size 5 1 (sl q) q.2.2.length (cb q.2.2)) (hf1 : Fr NoBlk wr w1) {v' : Value}
    (ho : w2.ownsRow w.heap.size 55 1 v' (g.parts.length + 1) (g.parts.map sl ++ [sl q])) (hgr : w1.grownBy w2 g.rv.ownBlock) (hb : v'.ownBlock = g.rv.ownBlock ∨ v'.ownBlock = some w1.heap.size)
    (hf3 : Fr (fun k => k = gl) w2 w3) (h3 : Bk w3 gl 192 (Lg.cells gd { g with rv := v' })) (hfew : g.parts.length + 1 ≤ 20000000) :
    WL w w3 gd p gl (L.with [q.2.2]) S ∧ Fr (Loose w S) wr w3 := by
  obtain ⟨h4, hf, hb4⟩ := h.push (Nat.le_trans ha.fr.size (Nat.le_refl _)) hq hn hf1 ho ((Fr.ofGrown hgr).mono fun _ _ e => e.symm) (hb.imp id fun e => ⟨_, e, Nat.le_refl _⟩) hf3 h3 hfew
  refine WL.log ?_ h hs hl ha h4 hf hb4
  rw [← hg]
  show (⟨_, _, _, _, _, (g.parts ++ [q]).map (·.2.2)⟩ : PL) = ⟨_, _, _, _, _, g.parts.map (·.2.2) ++ [q.2.2]⟩
  rw [List.map_append]
  rfl

set_option maxRecDepth 100000 in
set_option maxHeartbeats 4000000 in
theorem take_any (w w0 : World) (gd gl : Nat) (p : PD) (L : PL) (S : Nat → Prop) (h : WL w w0 gd p gl L S) (ht : Tab w) (A : Option Addr) (c : Nat) (data : Bs) (hr : Rd w0 A (cb data)) (hA : 0 < data.length → ∃ g0, A = some ⟨g0, 0, none⟩ ∧ S g0) (hc : data.length ≤ c) (hl : data.length ≤ 1048576) (hrec : L.recs.length + data.length ≤ 19999999) :
    Calls Tryz.prog 143 #[.pointer (some ⟨gl, 0, none⟩), .slice A data.length c] w0 (TakePost w w0 gd gl p L S data) := by
  have HT0 : Hid (TakeAt w w0 w0 gd gl p L S data 0 []) := ⟨by unfold PL.with; rw [List.append_nil]; exact h, Fr.refl _ _, by rw [List.drop_zero, List.nil_append, Nat.zero_add], Nat.zero_le _, Nat.zero_le _⟩
  have HR := Lib.hid hr
  have HA := Lib.hid hA
  have HT := Lib.hid ht
  have HREC := Lib.hid hrec
  obtain ⟨i0, hi, hz0, hz1, hz2⟩ := info_parts bytesInfo
  obtain ⟨T, hT⟩ : ∃ T, T = data.length := ⟨_, rfl⟩
  have HTL := Lib.hid hT
  rw [← hT] at hc hl ⊢
  clear h hr hA ht hT hrec
  go_enter Tryz.func143, Tryz.ntmps143
  go_wp2_with fail
  go_loopw [5] (fun s w' => ∃ (k : Nat), k ≤ T ∧ s = .int .i64 k ∧ Hid (∃ R, TakeAt w w0 w' gd gl p L S data k R)) (fun s _ => T - (intOf s).toNat)
  case atStart => exact ⟨0, Nat.zero_le _, rfl, [], HT0⟩
  case round =>
    clear HT0
    obtain ⟨k, hk, rfl, HX⟩ := hrel
    obtain ⟨R, hR⟩ := HX.out
    by_cases hlt : k < T
    · obtain ⟨g0, hg0, hS0⟩ := HA.out (by rw [← HTL.out]; omega)
      subst hg0
      have HTA := Lib.hid hR
      have hrd0 : Rd wr (some ⟨g0, 0, none⟩) (cb data) := HR.out.fr hR.fr fun j hj hc => by
        obtain ⟨_, e, rfl⟩ := hj
        injection e with e
        subst e
        exact hc.1 hS0
      have hdl : (data.drop k).length = T - k := by rw [List.length_drop, ← HTL.out]
      have hrd : Rd wr (some ⟨g0, k, none⟩) (cb (data.drop k)) := by
        have h := hrd0.cut (k := k) (cap := c) (by rw [cb_length, ← HTL.out]; omega) (by rw [cb_length, ← HTL.out]; omega)
        rw [if_neg (by omega), ← cb_drop] at h
        have e : (some (⟨g0, 0, none⟩ : Addr)).map (fun x => x.add k) = some ⟨g0, k, none⟩ := by
          show some (Addr.add ⟨g0, 0, none⟩ k) = _
          unfold Addr.add
          split <;> simp_all
        rw [e] at h
        exact h
      have HU := Lib.hid (unframe_any wr (hR.wl.tab HT.out) (some ⟨g0, k, none⟩) (T - k) (c - k) (data.drop k) hdl.symm hrd (fun h => by cases h) (by omega) (by omega))
      have f3 : ¬ c = k := by omega
      have f4 : (k : Int) ≤ (T : Int) := by omega
      have f5 : (T : Int) ≤ (c : Int) := by omega
      have HS0 := Lib.hid hS0
      clear hR HX hrd0 hdl hrd hS0
      obtain ⟨u, hu⟩ : ∃ u, u = unfr (data.drop k) := ⟨_, rfl⟩
      rw [← hu] at HU
      have HUQ := Lib.hid hu
      obtain ⟨ub, us, ue⟩ := u
      clear hu
      go_wp2_with fail
      refine HU.out.mono ?_
      clear HU
      rintro e w3 hp3
      unfold UnPost at hp3
      dsimp only at hp3
      obtain ⟨v3, rfl, hn3⟩ := hp3
      by_cases hue : ue = 0
      · subst hue
        obtain ⟨A3, c3, rfl, hc3, hA3⟩ := own_form hn3.own
        have HOK : Hid (6 ≤ us ∧ us ≤ T - k ∧ ub.length ≤ 4096) := by
          have h := unfr_ok (data.drop k) (by rw [← HUQ.out])
          rw [← HUQ.out, List.length_drop, ← HTL.out] at h
          exact h
        have hus := HOK.out.2.1
        obtain ⟨g, hgp, hlg, hag, hsg, htg⟩ := HTA.out.wl
        have hfew : g.parts.length + 1 ≤ 20000000 := by
          have h1 := HREC.out
          have h2 := HTA.out.few
          have h3 : g.parts.length = L.recs.length + R.length := by
            have := congrArg (fun x : PL => x.recs.length) hgp
            simp only [Lg.pl, PL.with, List.length_map, List.length_append] at this
            exact this
          rw [← HTL.out] at h1
          omega
        obtain ⟨Av, cv, hv, hcv, hAv⟩ := own_form hlg.own
        have HLG := Lib.hid hlg
        have HAG := Lib.hid hag
        have HSG := Lib.hid hsg
        have HTG := Lib.hid htg
        have HGP := Lib.hid hgp
        have HN3 := Lib.hid hn3
        have HV := Lib.hid hv
        have hB3 : Bk w3 gl 192 (g.cells gd) := hlg.bk.fr hn3.fr fun h => h
        have q6 : w3.cell? ⟨gl, 6, none⟩ = some (.slice Av g.parts.length cv) := by rw [hB3.cell 6]; show some g.rv = _; rw [hv]
        have q6f := hB3.free 6
        have hgl3 := hB3.lt
        have HB3 := Lib.hid hB3
        have HOWN : Hid ((w3.alloc (.cells #[.slice A3 ub.length c3] 55)).ownsRow w.heap.size 55 1 (.slice Av g.parts.length cv) g.parts.length (g.parts.map sl)) := by
          have h := (own_fr hlg.own hn3.fr fun _ _ h => h).alloc (.cells #[.slice A3 ub.length c3] 55)
          rw [hv] at h
          exact h
        have HSZ : Hid (w.heap.size ≤ w3.heap.size) := Nat.le_trans HTA.out.wl.fr.size hn3.fr.size
        have HFEW := Lib.hid hfew
        clear hn3 hlg hag hsg htg hgp hv hcv hAv hB3 hc3 hA3
        obtain ⟨np, hnp⟩ : ∃ np, np = g.parts.length := ⟨_, rfl⟩
        rw [← hnp] at q6 HOWN hfew
        have HNP := Lib.hid hnp
        clear hnp
        have f6 : (k : Int) + (us : Int) ≤ (T : Int) := by omega
        go_wp2_with (at_builtin; refine wpList_app rfl _ _ 92 rfl w.heap.size 55 i0 (.slice none 0 0) 24 Tryz.underlying92 hi hz0 hz1 hz2 rfl _ _ _ rfl HOWN.out (some ⟨w3.heap.size, 0, none⟩) 1 1 [.slice A3 ub.length c3] rfl rfl ?c1 ?c2 ?c3 ?c4 ?c5 ?c6 ?_)
        case c1 => exact Rd.new_marked w3 [.slice A3 ub.length c3] 55 (0, 0)
        case c2 => intro u hu; rw [List.mem_singleton.1 hu]; rfl
        case c3 => intro h; cases h
        case c4 => unfold maxLen; omega
        case c5 => omega
        case c6 => have := HSZ.out; simp; omega
        intro v4 w4 ho4 hgrow _ hblk
        have HFA : Hid (Fr NoBlk w3 (w3.alloc (.cells #[.slice A3 ub.length c3] 55))) := (Fr.refl _ _).alloc _
        have hBA : Bk (w3.alloc (.cells #[.slice A3 ub.length c3] 55)) gl 192 (g.cells gd) := HB3.out.fr HFA.out fun h => h
        have hB4 : Bk w4 gl 192 (g.cells gd) := hBA.fr (Fr.ofGrown hgrow) (fun e => own_apart HOWN.out hBA (by decide) e.symm)
        obtain ⟨A4, c4, rfl, hc4, hA4⟩ := own_form ho4
        have q6' : w4.cell? ⟨gl, 6, none⟩ = some (.slice Av np cv) := by rw [hB4.cell 6, HNP.out, ← HV.out]; rfl
        have q6f' := hB4.free 6
        have hB5 : Bk (w4.setCell ⟨gl, 6, none⟩ (.slice A4 (np + 1) c4)) gl 192 (Lg.cells gd { g with rv := .slice A4 (np + 1) c4 }) := hB4.put 6 (.slice A4 (np + 1) c4)
        have hf5 : Fr (fun j => j = gl) w4 (w4.setCell ⟨gl, 6, none⟩ (.slice A4 (np + 1) c4)) := (Fr.refl (fun j => j = gl) w4).setCell (p := ⟨gl, 6, none⟩) (fun _ => rfl) _
        have HPU : Hid (WL w (w4.setCell ⟨gl, 6, none⟩ (.slice A4 (np + 1) c4)) gd p gl ((L.with R).with [ub]) S ∧ Fr (Loose w S) wr (w4.setCell ⟨gl, 6, none⟩ (.slice A4 (np + 1) c4))) := by
          refine WL.push (q := (A3, c3, ub)) (w1 := w3.alloc (.cells #[.slice A3 ub.length c3] 55)) (w2 := w4) HGP.out HLG.out HAG.out HSG.out HTG.out HOK.out.2.2 (own_fr HN3.out.own HFA.out fun _ _ h => h) (HN3.out.fr.trans HFA.out) (v' := .slice A4 (np + 1) c4) ?_ ?_ ?_ hf5 hB5 HFEW.out
          · rw [← HNP.out]; exact ho4
          · rw [HV.out, ← HNP.out]; exact hgrow
          · rw [HV.out, ← HNP.out, World.size_alloc]; exact hblk
        have HNX : Hid (∃ R, TakeAt w w0 (w4.setCell ⟨gl, 6, none⟩ (.slice A4 (np + 1) c4)) gd gl p L S data (k + us) R) := by
          refine ⟨R ++ [ub], HTA.out.next HUQ.out.symm ?_ HPU.out.2⟩
          have h := HPU.out.1
          unfold PL.with at h ⊢
          dsimp only at h
          rw [List.append_assoc] at h
          exact h
        clear ho4 hgrow hblk hBA hB4 hc4 hA4 hB5 hf5 HPU HTA
        go_wp2_with fail
        go_roundw
        case rel => exact ⟨k + us, by omega, by go_num, HNX⟩
        case measure => simp [intOf]; have := HOK.out.1; omega
      · have HBAD : Hid (parse (data.drop k) = ([], 0)) := parse_bad _ (by rw [← HUQ.out]; exact hue)
        have HZ := Lib.hid (HTA.out.post HBAD.out)
        have HZ3 : Hid (TakePost w w0 gd gl p L S data (.returned (.int .i64 k)) w3) := ⟨HZ.out.1, HZ.out.2.1.nofr hn3.fr, HZ.out.2.2.trans (hn3.fr.mono fun _ _ h => h.elim)⟩
        have t1 : ((ue : Int) != 0) = true := by rw [bne_iff_ne]; omega
        have t2 : ¬ (ue : Int) = 0 := by omega
        clear hn3 HZ HTA
        go_wp2_with fail
        go_ret
        exact HZ3.out
    · have HZ := Lib.hid (hR.post (by
        rw [List.drop_of_length_le (by rw [← HTL.out]; omega)]
        exact parse_nil))
      clear hR HX
      go_wp2_with fail
      go_ret
      exact HZ.out
end Go.Proofs.YtafiokabnlmgpaaGreatDoor
