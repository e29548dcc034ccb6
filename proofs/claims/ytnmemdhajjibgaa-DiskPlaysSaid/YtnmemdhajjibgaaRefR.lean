/- The document's Read, Remove, Rename. No condition but lengths. -/
import Derived.Test.YtnmemdhajjibgaaRefS
namespace Go.Proofs.Ytnmemdhajjibgaa
open Go.RowKit

def RRead (w : World) (r : Bs × Int) (e : Ending) (w' : World) : Prop := ∃ A c, e = .returned (.tuple #[.slice A r.1.length c, .int .i64 r.2]) ∧ Rd w' A (cb r.1) ∧ Fr NoBlk w w'
theorem ptotal_mem {L : List PF} {f : PF} (h : f ∈ L) : f.data.length ≤ ptotal L := by
  induction L with
  | nil => cases h
  | cons g t ih =>
    show _ ≤ g.data.length + ptotal t
    rcases List.mem_cons.1 h with rfl | h
    · omega
    · have := ih h; omega
set_option maxRecDepth 100000 in
theorem rread_any (w : World) (base : Nat) (m : RM) (h : RIn w base m) (ht : RFit m) (key : Bs) :
    Calls Try.prog 30 #[.pointer (some ⟨m.g, 0, none⟩), .string (bstr key)] w (RRead w (pRead m.pd key)) := by
  obtain ⟨i0, hi, hz0, hz1, hz2⟩ := info_parts byteInfo
  have hl := ht.len
  have HFI := Lib.hid (rfind_any w base m h key (by omega))
  have HR := Lib.hid h
  have HT := Lib.hid ht
  have hgl := h.bk.lt
  obtain ⟨r, hr⟩ : ∃ r, r = pRead m.pd key := ⟨_, rfl⟩
  have HQ := Lib.hid hr
  rw [← hr]
  clear h ht hr
  unfold pRead at HQ
  go_enter Try.func30, Try.ntmps30
  go_wp2_with fail
  refine HFI.out.mono ?_
  clear HFI
  rintro e w1 ⟨hq, rfl⟩
  have HFA : Hid (Fr NoBlk w (w.alloc (.cells #[] 5))) := (Fr.refl _ _).alloc _
  cases hd : m.down
  · rw [hd] at hq
    rcases hq with ⟨hn, rfl⟩ | ⟨j, f, hj, hk, hf, rfl⟩
    · have HZ : Hid (r = ([], 60)) := by
        show _ = _
        have h1 : m.pd.down = false := hd
        have h2 : pfind m.pd.files key = none := hn
        rw [HQ.out, h1, h2]; rfl
      go_wp2_with fail
      go_ret2
      rw [HZ.out]
      exact ⟨_, _, rfl, Rd.none_ _ _, HFA.out⟩
    · have HZ : Hid (r = (f.pf.data, 0)) := by
        show _ = _
        have h1 : m.pd.down = false := hd
        have h2 : pfind m.pd.files key = some f.pf := hf
        rw [HQ.out, h1, h2]; rfl
      have HRA := Lib.hid (HR.out.nofr HFA.out)
      have hjl := (List.getElem?_eq_some_iff.1 hj).1
      obtain ⟨b, hA, hne, q0, q1, q2, hfz⟩ := HRA.out.file hj
      obtain ⟨_, c1, _, _⟩ := HRA.out.cell
      have hga := HRA.out.bk.lt
      rw [hA] at c1
      have i0' : (0 : Int) ≤ (j : Int) := by omega
      have i1' : (j : Int) < (m.fs.length : Int) := by omega
      have HD := Lib.hid (HRA.out.dat f (List.mem_of_getElem? hj))
      have hdl : f.pf.data.length ≤ 1048576 := by
        have h1 := HT.out.tot
        have h2 := HT.out.room
        have h3 : f.pf ∈ m.pfs := List.mem_map.2 ⟨f, List.mem_of_getElem? hj, rfl⟩
        have := ptotal_mem h3
        omega
      clear hj hk hf hA hne q0 q2 hfz HQ
      obtain ⟨⟨nm, dt, la⟩, fa, fc⟩ := f
      dsimp only at q1 HD hdl HZ
      have HDL : Hid ((cb dt).length = dt.length * 1) := by show _ = _; rw [cb_length, Nat.mul_one]
      go_wp2_with (at_builtin; refine wpList_appB rfl _ _ 31 rfl 5 i0 _ 1 1 Try.underlying31 hi hz0 hz1 hz2 rfl (by decide) _ rfl fa fc dt.length (cb dt) rfl HDL.out HD.out.rd (cb_one _) HD.out.nil (by unfold maxLen; omega) (by omega) ?_)
      intro A1 c1' w3 hg3
      have HG := Lib.hid hg3.ofAlloc
      clear hg3
      go_wp2_with fail
      go_ret2
      rw [HZ.out]
      exact ⟨_, _, rfl, HG.out.got.rd, HG.out.got.fr⟩
  · rw [hd] at hq
    subst hq
    have HZ : Hid (r = ([], 3)) := by
      show _ = _
      have h1 : m.pd.down = true := hd
      rw [HQ.out, h1]; rfl
    go_wp2_with fail
    go_ret2
    rw [HZ.out]
    exact ⟨_, _, rfl, Rd.none_ _ _, HFA.out⟩

theorem rdel_mem {L : List RF} {k : Bs} {f : RF} (h : f ∈ rdel L k) : f ∈ L := (List.mem_filter.1 h).1
theorem rdel_len (L : List RF) (k : Bs) : (rdel L k).length ≤ L.length := List.length_filter_le ..
set_option maxRecDepth 100000 in
theorem rremove_any (w : World) (base : Nat) (m : RM) (h : RIn w base m) (ht : RFit m) (hb : base ≤ w.heap.size) (key : Bs) :
    Calls Try.prog 34 #[.pointer (some ⟨m.g, 0, none⟩), .string (bstr key)] w (REnd w base m (pRemove m.pd key)) := by
  have hl := ht.len
  have HFI := Lib.hid (rfind_any w base m h key (by omega))
  have HUS := Lib.hid (ruse_any w base m h ht.left)
  have HR := Lib.hid h
  have hgl := h.bk.lt
  obtain ⟨r, hr⟩ : ∃ r, r = pRemove m.pd key := ⟨_, rfl⟩
  have HQ := Lib.hid hr
  rw [← hr]
  clear h ht hr
  unfold pRemove at HQ
  go_enter Try.func34, Try.ntmps34
  go_wp2_with fail
  refine HFI.out.mono ?_
  clear HFI
  rintro e w1 ⟨hq, rfl⟩
  cases hd : m.down
  · rw [hd] at hq
    rcases hq with ⟨hn, rfl⟩ | ⟨j, f, hj, hk, hf, rfl⟩
    · have HZ : Hid (REnd w base m r (.returned (.int .i64 60)) w) := REnd.same HR.out (by
        rw [HQ.out]
        exact pChange_none _ _ hd hn)
      go_wp2_with fail
      go_ret
      exact HZ.out
    · have HQ1 : Hid (r = if m.left = 0 then (pspend m.pd, 3) else ({ pspend m.pd with files := pdel m.pfs key }, 0)) := by
        show _ = _
        rw [HQ.out]
        exact pChange_some _ _ hd hf
      clear hj hk hf HQ
      go_wp2_with fail
      refine HUS.out.mono ?_
      clear HUS
      rintro e w2 ⟨rfl, hp2⟩
      have HP2 := Lib.hid hp2
      clear hp2
      by_cases h0 : m.left = 0
      · have e0 : decide (m.left = 0) = true := decide_eq_true h0
        have HZ : Hid (REnd w base m r (.returned (.int .i64 3)) w2) := by
          refine ⟨?_, _, ?_, HP2.out⟩
          · rw [HQ1.out, if_pos h0]
          · rw [HQ1.out, if_pos h0, rspend_pd]
        rw [e0]
        clear e0 h0
        go_wp2_with fail
        go_ret
        exact HZ.out
      · have e0 : decide (m.left = 0) = false := decide_eq_false h0
        obtain ⟨s1, s2, s3, s4, s5⟩ := rspend_fs m
        have HDR := Lib.hid (rdrop_any w2 base (rspend m) HP2.out.rin key (by rw [s1]; omega) (Nat.le_trans hb HP2.out.fr.size))
        rw [s2] at HDR
        have HFIN : Hid (∀ w3, RowPost w2 w3 base (rspend m) (rdel (rspend m).fs key) → REnd w base m r (.returned (.int .i64 0)) w3) := fun w3 hp3 => by
          obtain ⟨m', h1, h2, h3, h4, h5⟩ := HP2.out.row hp3 fun f hf hp k hk => HP2.out.blk k (.inr ⟨f, rdel_mem hf, hp, hk⟩)
          refine ⟨by rw [HQ1.out, if_neg h0], m', ?_, h1⟩
          rw [HQ1.out, if_neg h0]
          have e1 : m'.fs.map RF.pf = pdel m.pfs key := by rw [h2, rdel_pf, s1]
          show (⟨m'.room, m'.left, m'.down, m'.fs.map RF.pf⟩ : PD) = { pspend m.pd with files := pdel m.pfs key }
          rw [e1, h3, h4, h5, ← rspend_pd m]
          rfl
        rw [e0]
        clear e0 h0 HP2 HQ1 s1 s2 s3 s4 s5
        go_wp2_with fail
        refine HDR.out.mono ?_
        clear HDR
        rintro e w3 ⟨rfl, hp3⟩
        have HZ := Lib.hid (HFIN.out w3 hp3)
        clear hp3 HFIN
        go_wp2_with fail
        go_ret
        exact HZ.out
  · rw [hd] at hq
    subst hq
    have HZ : Hid (REnd w base m r (.returned (.int .i64 3)) w) := REnd.same HR.out (by
      rw [HQ.out]
      exact pChange_down _ _ _ hd)
    go_wp2_with fail
    go_ret
    exact HZ.out

set_option maxRecDepth 100000 in
set_option maxHeartbeats 1000000 in
theorem rrename_any (w : World) (base : Nat) (m : RM) (h : RIn w base m) (ht : RFit m) (hb : base ≤ w.heap.size) (key tt : Bs) (htl : tt.length ≤ maxLen) :
    Calls Try.prog 33 #[.pointer (some ⟨m.g, 0, none⟩), .string (bstr key), .string (bstr tt)] w (REnd w base m (pRename m.pd key tt)) := by
  have hl := ht.len
  have HFI := Lib.hid (rfind_any w base m h key (by omega))
  have HUS := Lib.hid (ruse_any w base m h ht.left)
  have HR := Lib.hid h
  have hgl := h.bk.lt
  have hsz := bstr_size tt
  obtain ⟨r, hr⟩ : ∃ r, r = pRename m.pd key tt := ⟨_, rfl⟩
  have HQ := Lib.hid hr
  rw [← hr]
  clear h ht hr
  unfold pRename at HQ
  unfold maxLen at htl
  go_enter Try.func33, Try.ntmps33
  go_wp2_with fail
  refine HFI.out.mono ?_
  clear HFI
  rintro e w1 ⟨hq, rfl⟩
  cases hd : m.down
  · rw [hd] at hq
    rcases hq with ⟨hn, rfl⟩ | ⟨j, f, hj, hk, hf, rfl⟩
    · have HZ : Hid (REnd w base m r (.returned (.int .i64 60)) w) := REnd.same HR.out (by
        rw [HQ.out]
        exact pChange_none _ _ hd hn)
      go_wp2_with fail
      go_ret
      exact HZ.out
    · have HJ := Lib.hid hj
      have hjl := (List.getElem?_eq_some_iff.1 hj).1
      have HQ1 : Hid (r = if isNm tt = false then (m.pd, 1) else if m.left = 0 then (pspend m.pd, 3) else ({ pspend m.pd with files := pins { f.pf with name := tt } (pdel (pdel m.pfs key) tt) }, 0)) := by
        show _ = _
        rw [HQ.out]
        exact pChange_some _ _ hd hf
      have HBAD : Hid (isNm tt = false → REnd w base m r (.returned (.int .i64 1)) w) := fun e => REnd.same HR.out (by rw [HQ1.out, if_pos e])
      clear hj hk hf HQ
      by_cases hn1 : tt.length < 1
      · have HZ := Lib.hid (HBAD.out (by unfold isNm; rw [decide_eq_false (by omega)]; rfl))
        have d1 : decide ((tt.length : Int) < 1) = true := decide_eq_true (by omega)
        go_wp2_with fail
        go_ret
        exact HZ.out
      by_cases hn2 : 16 < tt.length
      · have HZ := Lib.hid (HBAD.out (by unfold isNm; rw [decide_eq_false (by omega : ¬ tt.length ≤ 16), Bool.and_false]))
        have d1 : decide ((tt.length : Int) < 1) = false := decide_eq_false (by omega)
        have d2 : decide ((16 : Int) < (tt.length : Int)) = true := decide_eq_true (by omega)
        go_wp2_with fail
        go_ret
        exact HZ.out
      have HNM : Hid (¬ isNm tt = false) := by show ¬ _; unfold isNm; rw [decide_eq_true (by omega : 1 ≤ tt.length), decide_eq_true (by omega : tt.length ≤ 16)]; decide
      have d1 : decide ((tt.length : Int) < 1) = false := decide_eq_false (by omega)
      have d2 : decide ((16 : Int) < (tt.length : Int)) = false := decide_eq_false (by omega)
      clear HBAD
      go_wp2_with fail
      refine HUS.out.mono ?_
      clear HUS
      rintro e w2 ⟨rfl, hp2⟩
      have HP2 := Lib.hid hp2
      clear hp2
      by_cases h0 : m.left = 0
      · have e0 : decide (m.left = 0) = true := decide_eq_true h0
        have HZ : Hid (REnd w base m r (.returned (.int .i64 3)) w2) := by
          refine ⟨?_, _, ?_, HP2.out⟩
          · rw [HQ1.out, if_neg HNM.out, if_pos h0]
          · rw [HQ1.out, if_neg HNM.out, if_pos h0, rspend_pd]
        rw [e0]
        clear e0 h0
        go_wp2_with fail
        go_ret
        exact HZ.out
      · have e0 : decide (m.left = 0) = false := decide_eq_false h0
        obtain ⟨s1, s2, s3, s4, s5⟩ := rspend_fs m
        have hj' : (rspend m).fs[j]? = some f := by rw [s1]; exact HJ.out
        obtain ⟨b, hA, hne, q0, q1, q2, hfz⟩ := HP2.out.rin.file hj'
        obtain ⟨_, c1, _, _⟩ := HP2.out.rin.cell
        have hg2 := HP2.out.rin.bk.lt
        rw [s2] at hg2 c1
        rw [hA, s1] at c1
        have i0' : (0 : Int) ≤ (j : Int) := by omega
        have i1' : (j : Int) < (m.fs.length : Int) := by omega
        obtain ⟨⟨nm, dt, la⟩, fa, fc⟩ := f
        dsimp only at q0 q1 q2 HQ1
        have HFM : Hid ((⟨⟨nm, dt, la⟩, fa, fc⟩ : RF) ∈ m.fs) := List.mem_of_getElem? HJ.out
        have HD0 := Lib.hid (HP2.out.rin.dat _ (List.mem_of_getElem? hj'))
        dsimp only at HD0
        -- the file's box
        obtain ⟨w3, hw3⟩ : ∃ w3, w3 = w2.alloc (.cells #[.string (bstr nm), .slice fa dt.length fc, .int .i64 la] 68) := ⟨_, rfl⟩
        have HF3 : Hid (Fr NoBlk w2 w3) := by show Fr _ _ _; rw [hw3]; exact (Fr.refl _ _).alloc _
        have HB3 : Hid (Bk w3 w2.heap.size 68 #[.string (bstr nm), .slice fa dt.length fc, .int .i64 la]) := by show Bk _ _ _ _; rw [hw3]; exact Bk.new _ _ _
        have HP3 := Lib.hid (HP2.out.more HF3.out)
        have HS3 : Hid (∀ k, (rspend m).own k → k < w2.heap.size) := fun k hk => (HP2.out.rin.own hk).2
        have hs3 : w2.heap.size < w3.heap.size := HB3.out.lt
        have hb3 : base ≤ w3.heap.size := Nat.le_trans hb HP3.out.fr.size
        have HD3 := Lib.hid (HD0.out.nofr HF3.out)
        have hlen3 : (rspend m).fs.length ≤ 32 := by rw [s1]; omega
        have HDR := Lib.hid (rdrop_any w3 base (rspend m) HP3.out.rin key (by omega) hb3)
        rw [s2] at HDR
        rw [e0]
        clear e0 hj' hA hne hfz HJ
        have HW3 := Lib.hid hw3
        go_wp2_with fail
        rw [← HW3.out]
        clear HW3 hw3 q0 q1 q2 c1
        refine HDR.out.mono ?_
        clear HDR
        rintro e w4 ⟨rfl, hp4⟩
        obtain ⟨m4, P4, h42, h43, h44, h45⟩ := hp4.post fun f hf hp k hk => .inl (.inr ⟨f, rdel_mem hf, hp, hk⟩)
        have HB4 : Hid (Bk w4 w2.heap.size 68 #[.string (bstr nm), .slice fa dt.length fc, .int .i64 la]) := HB3.out.fr P4.fr fun hk => by have := HS3.out _ hk; omega
        have HD4 : Hid (DOk w4 base fa fc dt) := HD3.out.fr P4.fr (HP3.out.rin.apart HD3.out)
        have HP4 := Lib.hid (HP3.out.trans P4)
        have hb4 : base ≤ w4.heap.size := Nat.le_trans hb HP4.out.fr.size
        have hs4 : w3.heap.size ≤ w4.heap.size := P4.fr.size
        have hown4 : ¬ m4.own w2.heap.size := fun hk => (P4.own _ hk).elim (fun h => by have := HS3.out _ h; omega) fun h => by omega
        have hlen4 : m4.fs.length ≤ 32 := by rw [h42]; exact Nat.le_trans (rdel_len _ _) hlen3
        have hg4 : m4.g = m.g := HP4.out.g
        have HDR := Lib.hid (rdrop_any w4 base m4 HP4.out.rin tt (by omega) hb4)
        rw [hg4] at HDR
        have HN4 : Hid (¬ m4.blk w2.heap.size) := fun hk => (P4.blk _ hk).elim (fun h => by have := (HP2.out.rin.blk h).2; omega) fun h => by omega
        have HE4 := Lib.hid (And.intro h42 (And.intro h43 (And.intro h44 h45)))
        clear h42 h43 h44 h45 P4 hp4
        go_wp2_with fail
        refine HDR.out.mono ?_
        clear HDR
        rintro e w5 ⟨rfl, hp5⟩
        obtain ⟨m5, P5, h52, h53, h54, h55⟩ := hp5.post fun f hf hp k hk => .inl (.inr ⟨f, rdel_mem hf, hp, hk⟩)
        have HB5 : Hid (Bk w5 w2.heap.size 68 #[.string (bstr nm), .slice fa dt.length fc, .int .i64 la]) := HB4.out.fr P5.fr hown4
        have HD5 : Hid (DOk w5 base fa fc dt) := HD4.out.fr P5.fr (HP4.out.rin.apart HD4.out)
        have HP5 := Lib.hid (HP4.out.trans P5)
        have hs5 : w4.heap.size ≤ w5.heap.size := P5.fr.size
        have hlen5 : m5.fs.length ≤ 32 := by rw [h52]; exact Nat.le_trans (rdel_len _ _) hlen4
        have hg5 : m5.g = m.g := HP5.out.g
        have HN5 : Hid (¬ m5.blk w2.heap.size) := fun hk => (P5.blk _ hk).elim (fun h => HN4.out h) fun h => by omega
        have HE5 := Lib.hid (And.intro h52 (And.intro h53 (And.intro h54 h55)))
        have hl2 : w.heap.size ≤ w2.heap.size := HP2.out.fr.size
        have HF6 : Hid (Fr (fun k => k = w2.heap.size) w5 (w5.setCell ⟨w2.heap.size, 0, none⟩ (.string (bstr tt)))) := (Fr.refl (fun k => k = w2.heap.size) w5).setCell (p := ⟨w2.heap.size, 0, none⟩) (fun _ => rfl) _
        have HP6 : Hid (RPost w (w5.setCell ⟨w2.heap.size, 0, none⟩ (.string (bstr tt))) base m m5) := ⟨HP5.out.rin.fr HF6.out fun k hk e => HN5.out (e ▸ hk), HP5.out.g, HP5.out.fr.step HF6.out fun i hi e => by omega, HP5.out.own, HP5.out.blk⟩
        have HD6 : Hid (DOk (w5.setCell ⟨w2.heap.size, 0, none⟩ (.string (bstr tt))) base fa fc dt) := HD5.out.fr HF6.out fun hp k hk e => by
          obtain ⟨_, cs, hbk⟩ := HD0.out.blk hp k hk
          have := hbk.lt
          omega
        have hx0 : w5.cell? ⟨w2.heap.size, 0, none⟩ = some (.string (bstr nm)) := HB5.out.cell 0
        have hy0 := HB5.out.free 0
        have HB6 := HB5.out.put 0 (.string (bstr tt))
        have hx6 : (w5.setCell ⟨w2.heap.size, 0, none⟩ (.string (bstr tt))).cell? ⟨w2.heap.size, 0, none⟩ = some (.string (bstr tt)) := HB6.cell 0
        have hx7 : (w5.setCell ⟨w2.heap.size, 0, none⟩ (.string (bstr tt))).cell? ⟨w2.heap.size, 1, none⟩ = some (.slice fa dt.length fc) := HB6.cell 1
        have hx8 : (w5.setCell ⟨w2.heap.size, 0, none⟩ (.string (bstr tt))).cell? ⟨w2.heap.size, 2, none⟩ = some (.int .i64 la) := HB6.cell 2
        have HPU := Lib.hid (rput_any (w5.setCell ⟨w2.heap.size, 0, none⟩ (.string (bstr tt))) base m5 HP6.out.rin ⟨⟨tt, dt, la⟩, fa, fc⟩ HD6.out (by omega) (Nat.le_trans hb HP6.out.fr.size))
        rw [hg5] at HPU
        unfold rfv st at HPU
        dsimp only at HPU
        have HFIN : Hid (∀ w7, RowPost (w5.setCell ⟨w2.heap.size, 0, none⟩ (.string (bstr tt))) w7 base m5 (rins ⟨⟨tt, dt, la⟩, fa, fc⟩ m5.fs) → REnd w base m r (.returned (.int .i64 0)) w7) := fun w7 hp7 => by
          obtain ⟨m7, h1, h2, h3, h4, h5⟩ := HP6.out.row hp7 fun f hf hp k hk => by
            rcases rins_mem hf with rfl | hf
            · exact .inl (.inr ⟨_, HFM.out, hp, hk⟩)
            · exact HP6.out.blk k (.inr ⟨f, hf, hp, hk⟩)
          refine ⟨by rw [HQ1.out, if_neg HNM.out, if_neg h0], m7, ?_, h1⟩
          rw [HQ1.out, if_neg HNM.out, if_neg h0]
          obtain ⟨a1, a2, a3, a4⟩ := HE4.out
          obtain ⟨b1, b2, b3, b4⟩ := HE5.out
          have e1 : m7.fs.map RF.pf = pins { (⟨nm, dt, la⟩ : PF) with name := tt } (pdel (pdel m.pfs key) tt) := by rw [h2, rins_pf, b1, rdel_pf, a1, rdel_pf, s1]
          show (⟨m7.room, m7.left, m7.down, m7.fs.map RF.pf⟩ : PD) = { pspend m.pd with files := pins { (⟨nm, dt, la⟩ : PF) with name := tt } (pdel (pdel m.pfs key) tt) }
          rw [e1, h3, h4, h5, b2, b3, b4, a2, a3, a4, ← rspend_pd m]
          rfl
        clear h52 h53 h54 h55 P5 hp5 HB6 HP2 HP3 HP4 HP5 HQ1 HE4 HE5
        go_wp2_with fail
        refine HPU.out.mono ?_
        clear HPU
        rintro e w7 ⟨rfl, hp7⟩
        have HZ := Lib.hid (HFIN.out w7 hp7)
        clear hp7 HFIN
        go_wp2_with fail
        go_ret
        exact HZ.out
  · rw [hd] at hq
    subst hq
    have HZ : Hid (REnd w base m r (.returned (.int .i64 3)) w) := REnd.same HR.out (by
      rw [HQ.out]
      exact pChange_down _ _ _ hd)
    go_wp2_with fail
    go_ret
    exact HZ.out
end Go.Proofs.Ytnmemdhajjibgaa
