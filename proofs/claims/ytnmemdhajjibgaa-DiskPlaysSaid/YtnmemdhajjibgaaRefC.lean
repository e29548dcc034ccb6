/- The document's Cut. No condition but lengths. -/
import Derived.Test.YtnmemdhajjibgaaRefR
namespace Go.Proofs.Ytnmemdhajjibgaa
open Go.RowKit

set_option maxRecDepth 100000 in
set_option maxHeartbeats 1000000 in
theorem rcut_any (w : World) (base : Nat) (m : RM) (h : RIn w base m) (ht : RFit m) (key : Bs) (n : Int) :
    Calls Try.prog 36 #[.pointer (some ⟨m.g, 0, none⟩), .string (bstr key), .int .i64 n] w (REnd w base m (pCut m.pd key n)) := by
  have hl := ht.len
  have HFI := Lib.hid (rfind_any w base m h key (by omega))
  have HUS := Lib.hid (ruse_any w base m h ht.left)
  have HR := Lib.hid h
  have HT := Lib.hid ht
  have hgl := h.bk.lt
  obtain ⟨r, hr⟩ : ∃ r, r = pCut m.pd key n := ⟨_, rfl⟩
  have HQ := Lib.hid hr
  rw [← hr]
  clear h ht hr
  unfold pCut at HQ
  go_enter Try.func36, Try.ntmps36
  go_wp2_with fail
  refine HFI.out.mono ?_
  clear HFI
  rintro e w1 ⟨hq, rfl⟩
  cases hd : m.down
  · rw [hd] at hq
    rcases hq with ⟨hn, rfl⟩ | ⟨j, f, hj, hk, hf, rfl⟩
    · have HZ : Hid (REnd w base m r (.returned (.int .i64 60)) w) := REnd.same HR.out (by
        rw [HQ.out]
        exact pChange_none _ _ hd hn)
      go_wp2_with fail
      go_ret
      exact HZ.out
    · have HJ := Lib.hid hj
      have hjl := (List.getElem?_eq_some_iff.1 hj).1
      have HQ1 : Hid (r = if (decide (0 ≤ n) && decide (n ≤ f.pf.data.length)) = false then (m.pd, 1) else if m.left = 0 then (pspend m.pd, 3) else ({ pspend m.pd with files := pset m.pfs key fun g => { g with data := g.data.take n.toNat, last := min g.last n.toNat } }, 0)) := by
        show _ = _
        rw [HQ.out]
        exact pChange_some _ _ hd hf
      have HBAD : Hid ((decide (0 ≤ n) && decide (n ≤ f.pf.data.length)) = false → REnd w base m r (.returned (.int .i64 1)) w) := fun e => REnd.same HR.out (by rw [HQ1.out, if_pos e])
      have HK := Lib.hid hk
      obtain ⟨b, hA, hne, q0, q1, q2, hfz⟩ := HR.out.file hj
      obtain ⟨_, c1, _, _⟩ := HR.out.cell
      rw [hA] at c1
      have i0' : (0 : Int) ≤ (j : Int) := by omega
      have i1' : (j : Int) < (m.fs.length : Int) := by omega
      clear hj hk hf HQ
      obtain ⟨⟨nm, dt, la⟩, fa, fc⟩ := f
      dsimp only at q0 q1 q2 HQ1 HBAD HK
      by_cases hn0 : n < 0
      · have HZ := Lib.hid (HBAD.out (by rw [decide_eq_false (by omega)]; rfl))
        have d1 : decide (n < 0) = true := decide_eq_true hn0
        go_wp2_with fail
        go_ret
        exact HZ.out
      obtain ⟨nn, rfl⟩ : ∃ nn : Nat, n = nn := ⟨n.toNat, by omega⟩
      have d1 : decide ((nn : Int) < 0) = false := decide_eq_false hn0
      by_cases hn1 : dt.length < nn
      · have HZ := Lib.hid (HBAD.out (by rw [decide_eq_false (by omega : ¬ (nn : Int) ≤ (dt.length : Int)), Bool.and_false]))
        have d2 : decide ((dt.length : Int) < (nn : Int)) = true := decide_eq_true (by omega)
        go_wp2_with fail
        go_ret
        exact HZ.out
      have d2 : decide ((dt.length : Int) < (nn : Int)) = false := decide_eq_false (by omega)
      have HOK : Hid (¬ (decide (0 ≤ (nn : Int)) && decide ((nn : Int) ≤ dt.length)) = false) := by show ¬ _; rw [decide_eq_true (by omega : (0 : Int) ≤ (nn : Int)), decide_eq_true (by omega : (nn : Int) ≤ (dt.length : Int))]; decide
      clear HBAD
      go_wp2_with fail
      refine HUS.out.mono ?_
      clear HUS
      rintro e w2 ⟨rfl, hp2⟩
      have HP2 := Lib.hid hp2
      clear hp2 c1 q0 q1 q2 hfz hne
      by_cases h0 : m.left = 0
      · have e0 : decide (m.left = 0) = true := decide_eq_true h0
        have HZ : Hid (REnd w base m r (.returned (.int .i64 3)) w2) := by
          refine ⟨?_, _, ?_, HP2.out⟩
          · rw [HQ1.out, if_neg HOK.out, if_pos h0]
          · rw [HQ1.out, if_neg HOK.out, if_pos h0, rspend_pd]
        rw [e0]
        clear e0 h0
        go_wp2_with fail
        go_ret
        exact HZ.out
      · have e0 : decide (m.left = 0) = false := decide_eq_false h0
        obtain ⟨s1, s2, s3, s4, s5⟩ := rspend_fs m
        have hj' : (rspend m).fs[j]? = some ⟨⟨nm, dt, la⟩, fa, fc⟩ := by rw [s1]; exact HJ.out
        have hA2 : (rspend m).FA = some ⟨b, 0, none⟩ := by rw [s3]; exact hA
        obtain ⟨b', hA', hne, q0, q1, q2, hfz⟩ := HP2.out.rin.file hj'
        rw [hA2] at hA'
        injection hA' with hA'
        injection hA' with hA' _ _
        subst hA'
        obtain ⟨_, c1, _, _⟩ := HP2.out.rin.cell
        have hg2 := HP2.out.rin.bk.lt
        rw [s2] at hg2 c1 hne
        rw [hA2, s1] at c1
        dsimp only at q0 q1 q2
        have hlt : (dt.take nn).length = nn := by rw [List.length_take]; omega
        have HD := Lib.hid (HP2.out.rin.dat _ (List.mem_of_getElem? hj'))
        have HFIT : Hid (dt.length ≤ fc) := HD.out.le
        have P3 := HP2.out.rin.turnP hj' hA2 ⟨⟨nm, dt.take nn, la⟩, fa, fc⟩ 1 (by omega) (.slice fa nn fc) (by show [_, _, _] = [_, Value.slice fa (dt.take nn).length fc, _]; rw [hlt]) (HD.out.cut nn) fun hp k hk => .inr ⟨_, List.mem_of_getElem? hj', by show 0 < dt.length; have hp' : 0 < (dt.take nn).length := hp; omega, hk⟩
        have HP3 := Lib.hid (HP2.out.trans P3)
        have hset : ∀ y : RF, ((rspend m).fs.set j y).map RF.pf = m.pfs.set j y.pf := fun y => by rw [s1, List.map_set]
        have hact : ∀ y : PF, y = { (⟨nm, dt, la⟩ : PF) with data := dt.take nn, last := min la nn } → m.pfs.set j y = pset m.pfs key fun g => { g with data := g.data.take (nn : Int).toNat, last := min g.last (nn : Int).toNat } := fun y hy => by
          subst hy
          rw [← HK.out]
          exact (pset_at m.pfs HT.out.nodup j ⟨nm, dt, la⟩ (by show (m.fs.map RF.pf)[j]? = _; rw [List.getElem?_map, HJ.out]; rfl) (fun g => { g with data := g.data.take (nn : Int).toNat, last := min g.last (nn : Int).toNat })).symm
        have HFIN : Hid (∀ (m' : RM) (w' : World), RPost w w' base m m' → m'.pfs = m.pfs.set j { (⟨nm, dt, la⟩ : PF) with data := dt.take nn, last := min la nn } → m'.room = (rspend m).room → m'.left = (rspend m).left → m'.down = (rspend m).down → REnd w base m r (.returned (.int .i64 0)) w') := fun m' w' h1 h2 h3 h4 h5 => by
          refine ⟨by rw [HQ1.out, if_neg HOK.out, if_neg h0], m', ?_, h1⟩
          rw [HQ1.out, if_neg HOK.out, if_neg h0]
          show m'.pd = { pspend m.pd with files := pset m.pfs key fun g => { g with data := g.data.take (nn : Int).toNat, last := min g.last (nn : Int).toNat } }
          rw [← hact _ rfl, ← h2, ← rspend_pd m]
          show (⟨m'.room, m'.left, m'.down, m'.pfs⟩ : PD) = ⟨(rspend m).room, (rspend m).left, (rspend m).down, m'.pfs⟩
          rw [h3, h4, h5]
        have hbl : b < w2.heap.size := World.block_lt_of_cell? w2 _ q1
        have g1 := hfz (j * 3 + 1)
        have t2 : (w2.setCell ⟨b, j * 3 + 1, none⟩ (.slice fa nn fc)).cell? ⟨b, j * 3 + 2, none⟩ = some (.int .i64 la) := by
          obtain ⟨b', hA', _, _, _, q2', _⟩ := HP3.out.rin.file (k := j) (f := ⟨⟨nm, dt.take nn, la⟩, fa, fc⟩) (by show ((rspend m).fs.set j _)[j]? = _; rw [List.getElem?_set_self (by rw [s1]; exact hjl)])
          have hA'' : (rspend m).FA = some ⟨b', 0, none⟩ := hA'
          rw [hA2] at hA''
          injection hA'' with hA''
          injection hA'' with hA'' _ _
          subst hA''
          exact q2'
        have t1 : (w2.setCell ⟨b, j * 3 + 1, none⟩ (.slice fa nn fc)).cell? ⟨m.g, 1, none⟩ = some (.slice (some ⟨b, 0, none⟩) m.fs.length (rspend m).FC) := by
          rw [World.cell?_setCell_far _ _ _ _ hne]; exact c1
        have t3 : (w2.setCell ⟨b, j * 3 + 1, none⟩ (.slice fa nn fc)).frozen? ⟨b, j * 3 + 2, none⟩ = false := by
          obtain ⟨b', hA', _, _, _, _, hz'⟩ := HP3.out.rin.file (k := j) (f := ⟨⟨nm, dt.take nn, la⟩, fa, fc⟩) (by show ((rspend m).fs.set j _)[j]? = _; rw [List.getElem?_set_self (by rw [s1]; exact hjl)])
          have hA'' : (rspend m).FA = some ⟨b', 0, none⟩ := hA'
          rw [hA2] at hA''
          injection hA'' with hA''
          injection hA'' with hA'' _ _
          subst hA''
          exact hz' _
        by_cases hla : nn < la
        · have P4 := HP3.out.rin.turnP (j := j) (f := ⟨⟨nm, dt.take nn, la⟩, fa, fc⟩) (by show ((rspend m).fs.set j _)[j]? = _; rw [List.getElem?_set_self (by rw [s1]; exact hjl)]) (b := b) hA2 ⟨⟨nm, dt.take nn, nn⟩, fa, fc⟩ 2 (by omega) (.int .i64 nn) rfl (HP3.out.rin.dat ⟨⟨nm, dt.take nn, la⟩, fa, fc⟩ (List.mem_of_getElem? (i := j) (by show ((rspend m).fs.set j _)[j]? = _; rw [List.getElem?_set_self (by rw [s1]; exact hjl)]))) fun hp k hk => .inr ⟨⟨⟨nm, dt.take nn, la⟩, fa, fc⟩, List.mem_of_getElem? (i := j) (by show ((rspend m).fs.set j _)[j]? = _; rw [List.getElem?_set_self (by rw [s1]; exact hjl)]), hp, hk⟩
          have HZ := Lib.hid (HFIN.out _ _ (HP3.out.trans P4) (by show (((rspend m).fs.set j _).set j _).map RF.pf = _; rw [List.set_set, hset, Nat.min_eq_right (by omega)]) rfl rfl rfl)
          have d3 : decide ((nn : Int) < (la : Int)) = true := decide_eq_true (by omega)
          rw [e0]
          clear e0 h0 hj' hA hne hfz q0 q2 HP2 HP3 HQ1 s1 s2 s3 s4 s5 P3 P4 HFIN hset hact hlt HD hA2
          have hfit := HFIT.out
          generalize dt.length = dn at *
          go_wp2_with fail
          go_region
          all_goals
            go_wp2_with fail
            go_ret
            first | exact HZ.out | exact HZ.out.drew
        · have HZ := Lib.hid (HFIN.out _ _ HP3.out (by show ((rspend m).fs.set j _).map RF.pf = _; rw [hset, Nat.min_eq_left (by omega)]) rfl rfl rfl)
          have d3 : decide ((nn : Int) < (la : Int)) = false := decide_eq_false (by omega)
          rw [e0]
          clear e0 h0 hj' hA hne hfz q0 q2 HP2 HP3 HQ1 s1 s2 s3 s4 s5 P3 HFIN hset hact hlt HD hA2
          have hfit := HFIT.out
          generalize dt.length = dn at *
          go_wp2_with fail
          go_region
          all_goals
            go_wp2_with fail
            go_ret
            first | exact HZ.out | exact HZ.out.drew
  · rw [hd] at hq
    subst hq
    have HZ : Hid (REnd w base m r (.returned (.int .i64 3)) w) := REnd.same HR.out (by
      rw [HQ.out]
      exact pChange_down _ _ _ hd)
    go_wp2_with fail
    go_ret
    exact HZ.out
end Go.Proofs.Ytnmemdhajjibgaa
