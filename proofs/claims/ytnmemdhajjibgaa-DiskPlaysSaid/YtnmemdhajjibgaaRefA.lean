/- The document's Append. No condition but lengths; the bytes lie in other memory than the disk. -/
import Derived.Test.YtnmemdhajjibgaaRefC
namespace Go.Proofs.Ytnmemdhajjibgaa
open Go.RowKit

theorem step_app {P : Program} {w : World} {ops : Array Oper} {o : Oper} {a : Act} {K : Act → World → Prop} {Q : Exit → Act → World → Prop} {E : Prop} (hgd : o.guard = none) (s x : Operand) (t : TypeId)
    (ho : o.op = .call { callee := .builtin .append, args := #[s, x], argTypes := #[t, t] })
    (base : Nat) (e : TypeId) (i : TypeInfo) (z : Value) (bytes : Nat) (ht : P.underlying t = some (.slice e)) (hi : P.info? e = some i) (hz : i.zero = some z)
    (hsize : i.size = 1) (hby : i.bytes = bytes) (hzs : z.cells.size = 1)
    (v : Value) (n : Nat) (xs : List Value) (hs : a.eval s = v) (hown : w.ownsRow base e 1 v n xs)
    (A : Option Addr) (c m : Nat) (news : List Value) (hx : a.eval x = .slice A m c) (hm : news.length = m) (hr : Rd w A news) (h1 : ∀ u ∈ news, u.oneCell' = true)
    (hA : A = none → c = 0)
    (h63 : n + m ≤ maxLen) (hbytes : (n + m) * bytes ≤ 140737488355328) (hbase : base ≤ w.heap.size)
    (h : ∀ v' w', w'.ownsRow base e 1 v' (n + m) (xs ++ news) → w.grownBy w' v.ownBlock → (v' = .slice none 0 0 ↔ v = .slice none 0 0 ∧ m = 0) → (v'.ownBlock = v.ownBlock ∨ v'.ownBlock = some w.heap.size) →
      K (a.put o.dst v') w') :
    if Region.wanted o (yielded ops a.tmps) = true then Oper.wp P o a w K Q else E := by
  have hw : Region.wanted o (yielded ops a.tmps) = true := by simp [Region.wanted, hgd]
  rw [if_pos hw]
  obtain ⟨v', w', hrun, h2, h3, h4, h5⟩ := run_app (P := P) w base t o.type e i z bytes ht hi hz hsize hby hzs v n xs hown A c m news hm hr h1 hA h63 hbytes hbase
  unfold Oper.wp execOp
  simp only [ho, resolve, invoke, builtin, Sem.run_bind, Sem.run_pure, Result.andThen_ok, List.map_toArray, List.map_cons, List.map_nil, hs, hx, hrun]
  exact h v' w' h2 h3 h4 h5
theorem quiet_left {P : Program} {f : FuncId} {args : Array Value} {w : World} {n : Nat} {v : Value}
    (h : Calls P f args (w.drewN n) fun e w' => e = .returned v ∧ w.drewN n = w') : Calls P f args (w.drewN n) fun e w'' => e = .returned v ∧ ∃ m, w'' = w.drewN m :=
  h.mono fun _ _ ⟨he, hm⟩ => ⟨he, n, hm.symm⟩
/-- one file of the row has turned, behind what was done before. -/
theorem RPost.turn {w0 w : World} {base : Nat} {m0 m : RM} (H : RPost w0 w base m0 m) {j : Nat} {f : RF} (hx : m.fs[j]? = some f) {b : Nat} (hA : m.FA = some ⟨b, 0, none⟩) (y : RF) (i : Nat) (hi : i < 3) (u : Value) (hu : (rfc f).set i u = rfc y)
    (hy : DOk w base y.A y.c y.pf.data) (hb : 0 < y.pf.data.length → ∀ k, ablk y.A k → m0.blk k ∨ w0.heap.size ≤ k) : RPost w0 (w.setCell ⟨b, j * 3 + i, none⟩ u) base m0 { m with fs := m.fs.set j y } := by
  obtain ⟨h1, h2⟩ := H.rin.turn hx hA y i hi u hu hy
  refine ⟨h1, H.g, H.fr.step h2 fun k hk hc => (H.own k hc).elim id fun h => by omega, fun k hk => H.own k hk, fun k hk => ?_⟩
  rcases hk with hk | ⟨g, hg, hp, hk⟩
  · exact H.blk k (.inl hk)
  · rcases List.mem_or_eq_of_mem_set hg with hg | rfl
    · exact H.blk k (.inr ⟨g, hg, hp, hk⟩)
    · exact hb hp k hk
theorem pins_perm (x : PF) (L : List PF) : (pins x L).Perm (x :: L) := by
  induction L with
  | nil => exact List.Perm.refl _
  | cons y r ih =>
    unfold pins
    split
    · exact List.Perm.refl _
    · exact (List.Perm.cons y ih).trans (List.Perm.swap x y r)
theorem pins_nodup {x : PF} {L : List PF} (hn : (L.map (·.name)).Nodup) (hx : pfind L x.name = none) : ((pins x L).map (·.name)).Nodup := by
  rw [((pins_perm x L).map (·.name)).nodup_iff, List.map_cons, List.nodup_cons]
  refine ⟨fun hm => ?_, hn⟩
  obtain ⟨f, hf⟩ := find_named hm
  rw [hx] at hf
  cases hf
theorem pins_find (x : PF) (L : List PF) : ∃ f, pfind (pins x L) x.name = some f := find_named (List.mem_map.2 ⟨x, (pins_perm x L).mem_iff.2 (List.mem_cons_self ..), rfl⟩)
theorem app_down {p : PD} (k d : Bs) (h : p.down = true) : pAppend p k d = (p, 3) := by unfold pAppend; rw [if_pos h]
theorem app_name {p : PD} {k : Bs} (d : Bs) (h : p.down = false) (hk : isNm k = false) : pAppend p k d = (p, 1) := by unfold pAppend; rw [h, if_neg (by decide), if_pos hk]
theorem app_full {p : PD} {k d : Bs} (h : p.down = false) (hk : isNm k = true) (hf : (pfind p.files k = none ∧ 32 ≤ p.files.length) ∨ p.room < ptotal p.files + d.length) : pAppend p k d = (p, 2) := by
  unfold pAppend; rw [h, if_neg (by decide), hk, if_neg (by decide), if_pos hf]
theorem app_put {p : PD} {k d : Bs} (h : p.down = false) (hk : isNm k = true) (hf : ¬ ((pfind p.files k = none ∧ 32 ≤ p.files.length) ∨ p.room < ptotal p.files + d.length)) : pAppend p k d = (pspend { p with files := pput p.files k d }, pspendE p) := by
  unfold pAppend; rw [h, if_neg (by decide), hk, if_neg (by decide), if_neg hf]

set_option maxRecDepth 100000 in
set_option maxHeartbeats 8000000 in
theorem rappend_any (w : World) (base : Nat) (m : RM) (h : RIn w base m) (ht : RFit m) (hb : base ≤ w.heap.size) (key : Bs) (hkl : key.length ≤ maxLen) (A : Option Addr) (c : Nat) (d : Bs) (hr : Rd w A (cb d)) (hAc : A = none → c = 0) (hdl : d.length ≤ 1048576)
    (hsafe : 0 < d.length → ∀ k, ablk A k → k < base) :
    Calls Try.prog 38 #[.pointer (some ⟨m.g, 0, none⟩), .string (bstr key), .slice A d.length c] w (REnd w base m (pAppend m.pd key d)) := by
  obtain ⟨i0, hi, hz0, hz1, hz2⟩ := info_parts byteInfo
  have hl := ht.len
  have HAT := Lib.hid (rat_any w base m h key (by omega))
  have HR := Lib.hid h
  have HT := Lib.hid ht
  have HRD := Lib.hid hr
  have HAC := Lib.hid hAc
  have HSAFE := Lib.hid hsafe
  have hgl := h.bk.lt
  have hsz := bstr_size key
  have htot := ht.tot
  have hroom := ht.room
  obtain ⟨_, c1, _, c3⟩ := h.cell
  have c0 := h.cell.1
  have HUD : Hid (∀ n, Calls Try.prog 29 #[.pointer (some ⟨m.g, 0, none⟩)] (w.drewN n) fun e w' => e = .returned (.int .i64 (ptotal m.pfs)) ∧ w.drewN n = w') := fun n => rused_any (w.drewN n) base m (h.nofr ((Fr.refl _ _).drewN n)) (by omega) (by omega)
  obtain ⟨r, hr'⟩ : ∃ r, r = pAppend m.pd key d := ⟨_, rfl⟩
  have HQ := Lib.hid hr'
  rw [← hr']
  clear h ht hr hAc hsafe hr'
  unfold maxLen at hkl
  go_enter Try.func38, Try.ntmps38
  cases hd : m.down
  rotate_left
  · rw [hd] at c3
    have HZ : Hid (REnd w base m r (.returned (.int .i64 3)) w) := REnd.same HR.out (by rw [HQ.out]; exact app_down _ _ hd)
    go_wp2_with fail
    go_ret
    exact HZ.out
  rw [hd] at c3
  by_cases hn1 : key.length < 1
  · have HZ : Hid (REnd w base m r (.returned (.int .i64 1)) w) := REnd.same HR.out (by rw [HQ.out]; exact app_name _ hd (by unfold isNm; rw [decide_eq_false (by omega)]; rfl))
    have d1 : decide ((key.length : Int) < 1) = true := decide_eq_true (by omega)
    go_wp2_with fail
    go_ret
    exact HZ.out
  by_cases hn2 : 16 < key.length
  · have HZ : Hid (REnd w base m r (.returned (.int .i64 1)) w) := REnd.same HR.out (by rw [HQ.out]; exact app_name _ hd (by unfold isNm; rw [decide_eq_false (by omega : ¬ key.length ≤ 16), Bool.and_false]))
    have d1 : decide ((key.length : Int) < 1) = false := decide_eq_false (by omega)
    have d2 : decide ((16 : Int) < (key.length : Int)) = true := decide_eq_true (by omega)
    go_wp2_with fail
    go_ret
    exact HZ.out
  have HNM : Hid (isNm key = true) := by show _ = _; unfold isNm; rw [decide_eq_true (by omega : 1 ≤ key.length), decide_eq_true (by omega : key.length ≤ 16)]; rfl
  have d1 : decide ((key.length : Int) < 1) = false := decide_eq_false (by omega)
  have d2 : decide ((16 : Int) < (key.length : Int)) = false := decide_eq_false (by omega)
  go_wp2_with fail
  refine HAT.out.mono ?_
  clear HAT
  rintro e w1 ⟨⟨z, rfl, hz⟩, rfl⟩
  obtain ⟨tot, htt⟩ : ∃ tot, tot = ptotal m.pfs := ⟨_, rfl⟩
  have HTT := Lib.hid htt
  rw [← htt] at HUD htot
  clear htt
  have ew : IntKind.i64.wrap ((m.room : Int) - (tot : Int)) = (m.room : Int) - (tot : Int) := IntWalk.i64_in _ (by omega)
  have hpl : m.pfs.length = m.fs.length := List.length_map ..
  rcases hz with ⟨rfl, hn⟩ | ⟨j, f, rfl, hj, hk, hf⟩
  · by_cases h32 : 32 ≤ m.fs.length
    · have HZ : Hid (∀ n, REnd w base m r (.returned (.int .i64 2)) (w.drewN n)) := fun n => by
        have := REnd.same HR.out (r := r) (z := 2) (by rw [HQ.out]; exact app_full hd HNM.out (.inl ⟨hn, by show 32 ≤ m.pfs.length; rw [hpl]; exact h32⟩))
        obtain ⟨h1, m', h2, h3⟩ := this
        exact ⟨h1, m', h2, h3.more ((Fr.refl _ _).drewN n)⟩
      have d3 : decide ((m.fs.length : Int) < 32) = false := decide_eq_false (by omega)
      have d4 : decide ((32 : Int) ≤ (m.fs.length : Int)) = true := decide_eq_true (by omega)
      clear hn
      go_wp2_with fail
      go_quiet (fail)
      go_wp2_with fail
      go_ret
      exact HZ.out _
    · have d3 : decide ((m.fs.length : Int) < 32) = true := decide_eq_true (by omega)
      have d4 : decide ((32 : Int) ≤ (m.fs.length : Int)) = false := decide_eq_false (by omega)
      by_cases hful : m.room < tot + d.length
      · have HZ : Hid (∀ n, REnd w base m r (.returned (.int .i64 2)) (w.drewN n)) := fun n => by
          have := REnd.same HR.out (r := r) (z := 2) (by rw [HQ.out]; exact app_full hd HNM.out (.inr (by show m.room < ptotal m.pfs + d.length; rw [← HTT.out]; exact hful)))
          obtain ⟨h1, m', h2, h3⟩ := this
          exact ⟨h1, m', h2, h3.more ((Fr.refl _ _).drewN n)⟩
        have d5 : decide ((m.room : Int) - (tot : Int) < (d.length : Int)) = true := decide_eq_true (by omega)
        clear hn
        go_wp2_with fail
        go_quiet ((go_at_call 29; exact quiet_left (HUD.out _)))
        go_wp2_with fail
        go_ret
        exact HZ.out _
      · have HQ1 : Hid (r = (pspend { m.pd with files := pput m.pfs key d }, pspendE m.pd)) := by
          show _ = _
          rw [HQ.out]
          refine app_put hd HNM.out ?_
          rintro (⟨_, h2⟩ | h2)
          · exact h32 (by rw [← hpl]; exact h2)
          · exact hful (by rw [HTT.out]; exact h2)
        have d5 : decide ((m.room : Int) - (tot : Int) < (d.length : Int)) = false := decide_eq_false (by omega)
        have HNO := Lib.hid hn
        clear hn HQ
        go_wp2_with fail
        go_quiet ((go_at_call 29; exact quiet_left (HUD.out _)))
        have HFQ : Hid (Fr NoBlk w (w.drewN nq)) := (Fr.refl _ _).drewN nq
        have HRq := Lib.hid (HR.out.nofr HFQ.out)
        have HPU := Lib.hid (rput_any (w.drewN nq) base m HRq.out ⟨⟨key, [], 0⟩, none, 0⟩ (DOk.empty _ _) (by omega) (Nat.le_trans hb HFQ.out.size))
        unfold rfv st at HPU
        dsimp only at HPU
        have hgq : m.g < (w.drewN nq).heap.size := hgl
        clear c0 c1 c3 HUD
        generalize w.drewN nq = wq at *
        go_wp2_with fail
        refine HPU.out.mono ?_
        clear HPU
        rintro e w2 ⟨rfl, hp2⟩
        obtain ⟨m1, P2, h12, h13, h14, h15⟩ := ((RPost.refl HR.out).more HFQ.out).row hp2 fun f hf hp k hk => by
          rcases rins_mem hf with rfl | hf
          · exact absurd hp (by simp)
          · exact .inl (.inr ⟨f, hf, hp, hk⟩)
        have HP2 := Lib.hid P2
        have hpf : m1.pfs = pins ⟨key, [], 0⟩ m.pfs := by show m1.fs.map RF.pf = _; rw [h12, rins_pf]
        have hnd1 : (m1.pfs.map (·.name)).Nodup := by rw [hpf]; exact pins_nodup HT.out.nodup HNO.out
        have HM1 : Hid (m1.room = m.room ∧ m1.left = m.left ∧ m1.down = m.down) := ⟨h13, h14, h15⟩
        have hl1 : m1.fs.length ≤ 33 := by rw [h12, rins_len]; omega
        have HAT := Lib.hid (rat_any w2 base m1 HP2.out.rin key (by omega))
        have hgm1 : m1.g = m.g := HP2.out.g
        rw [hgm1] at HAT
        have HND := Lib.hid hnd1
        have HPF := Lib.hid hpf
        clear P2 h12 h13 h14 h15 hp2 hpf hnd1 hgq HRq
        go_wp2_with fail
        refine HAT.out.mono ?_
        clear HAT
        rintro e w2' ⟨⟨z, rfl, hz⟩, rfl⟩
        rcases hz with ⟨_, hn⟩ | ⟨j, f, rfl, hj, hk, hf⟩
        · obtain ⟨f, hf⟩ := pins_find ⟨key, [], 0⟩ m.pfs
          rw [HPF.out] at hn
          rw [hn] at hf
          cases hf
        obtain ⟨f1, hf1, hff⟩ : ∃ f1, m1.fs[j]? = some f1 ∧ f1.pf = f := by
          have hj2 : (m1.fs.map RF.pf)[j]? = some f := hj
          rw [List.getElem?_map] at hj2
          cases hg : m1.fs[j]? with
          | none => rw [hg] at hj2; cases hj2
          | some g => rw [hg] at hj2; injection hj2 with hj2; exact ⟨g, rfl, hj2⟩
        have HJ1 := Lib.hid hf1
        have HN1 : Hid (f1.pf.name = key) := by show _ = _; rw [hff]; exact hk
        have HPUT : Hid (pput m.pfs key d = m1.pfs.set j { f1.pf with data := f1.pf.data ++ d }) := by
          show _ = _
          unfold pput
          rw [HNO.out]
          show pset (pins ⟨key, [], 0⟩ m.pfs) key _ = _
          rw [← HPF.out, ← HN1.out]
          exact pset_at m1.pfs HND.out j f1.pf (by rw [hff]; exact hj) _
        have HDT : Hid (f1.pf.data.length ≤ 1048576) := by
          have h1 : f1.pf ∈ pins ⟨key, [], 0⟩ m.pfs := by rw [← HPF.out, hff]; exact List.mem_of_getElem? hj
          rcases List.mem_cons.1 ((pins_perm _ _).mem_iff.1 h1) with e | h1
          · rw [e]; show ([] : Bs).length ≤ _; simp
          · have := ptotal_mem h1
            have := HTT.out
            show _ ≤ _
            omega
        have hjn : ¬ ((j : Int) < 0) := by omega
        clear hj hk hf hf1 hff HND HPF HNO
        obtain ⟨b, hA, hne, q0, q1, q2, hfz⟩ := HP2.out.rin.file HJ1.out
        obtain ⟨_, c1, _, _⟩ := HP2.out.rin.cell
        have hg2 := HP2.out.rin.bk.lt
        have hgm : m1.g = m.g := HP2.out.g
        rw [hgm] at hg2 c1 hne
        rw [hA] at c1
        have HD := Lib.hid (HP2.out.rin.dat _ (List.mem_of_getElem? HJ1.out))
        have hjl := (List.getElem?_eq_some_iff.1 HJ1.out).1
        obtain ⟨⟨nm, dt, la⟩, fa, fc⟩ := f1
        obtain rfl : nm = key := HN1.out
        dsimp only at q0 q1 q2 HD HPUT
        have hdt : dt.length ≤ 1048576 := HDT.out
        have i0' : (0 : Int) ≤ (j : Int) := by omega
        have i1' : (j : Int) < (m1.fs.length : Int) := by omega
        have q1f := hfz (j * 3 + 1)
        have hbl : b < w2.heap.size := World.block_lt_of_cell? w2 _ q1
        have hbg : b ≠ m.g := hne
        have hb2 : base ≤ w2.heap.size := Nat.le_trans hb HP2.out.fr.size
        have HRD2 : Hid (Rd w2 A (cb d)) := HRD.out.fr' HP2.out.fr fun hp k hk hc => by
          have h1 := HSAFE.out (by rw [← cb_length]; exact hp) k hk
          have h2 := (HR.out.own hc).1
          omega
        have HFL : Hid (Fr NoBlk w2 (w2.drew.alloc (.cells #[] 5))) := ((Fr.refl _ _).drew).alloc _
        have HNEW : Hid ((w2.drew.alloc (.cells #[] 5)).ownsRow w2.heap.size 5 1 (.slice (some ⟨w2.heap.size, 0, none⟩) 0 0) 0 []) := World.ownsRow_made w2.drew #[] 0 (Nat.le_refl _) (by decide) rfl
        have HDL := Lib.hid (HD.out.nofr HFL.out)
        have HSL : Hid (w2.heap.size ≤ (w2.drew.alloc (.cells #[] 5)).heap.size) := HFL.out.size
        have kL : (w2.drew.alloc (.cells #[] 5)).cell? ⟨m.g, 1, none⟩ = some (.slice (some ⟨b, 0, none⟩) m1.fs.length m1.FC) := (HFL.out.cell (p := ⟨m.g, 1, none⟩) hg2 (fun h => h)).trans c1
        have qL : (w2.drew.alloc (.cells #[] 5)).cell? ⟨b, j * 3 + 1, none⟩ = some (.slice fa dt.length fc) := (HFL.out.cell (p := ⟨b, j * 3 + 1, none⟩) hbl (fun h => h)).trans q1
        have qD : w2.drew.cell? ⟨b, j * 3 + 1, none⟩ = some (.slice fa dt.length fc) := q1
        clear q0 q2 hfz hne
        go_wp2_with fail
        refine wp_region_held_drew (S := fun w' => w'.cell? ⟨m.g, 1, none⟩ = some (.slice (some ⟨b, 0, none⟩) m1.fs.length m1.FC)) (by kernel_rfl) (by exact c1) (fun hHeld => ?_)
        refine wpAnyH_take (i := 0) (oi := ⟨some 54, _, _, _, _, _⟩) (v := ?_) rfl (by kernel_rfl) (by kernel_rfl) (by kernel_rfl) (fun _ _ _ h => h) (Or.inl ⟨by rfl, ?_⟩) (by assumption) ?_
        rotate_left 1
        · (intro w hSw; (try dsimp only at hSw); go_simp) <;> (with_reducible rfl)
        try simp only [Act.put, List.setIfInBounds_toArray, List.set_cons_zero, List.set_cons_succ]
        refine wpAnyH_take (i := 1) (oi := ⟨some 55, _, _, _, _, _⟩) (v := ?_) rfl (by kernel_rfl) (by kernel_rfl) (by kernel_rfl) (fun _ _ _ h => h) (Or.inl ⟨by rfl, ?_⟩) (by assumption) ?_
        rotate_left 1
        · (intro w hSw; (try dsimp only at hSw); go_simp) <;> (with_reducible rfl)
        try simp only [Act.put, List.setIfInBounds_toArray, List.set_cons_zero, List.set_cons_succ]
        refine wpAnyH_take (i := 2) (oi := ⟨some 56, _, _, _, _, _⟩) (v := ?_) rfl (by kernel_rfl) (by kernel_rfl) (by kernel_rfl) (fun _ _ _ h => h) (Or.inl ⟨by rfl, ?_⟩) (by assumption) ?_
        rotate_left 1
        · (intro w hSw; (try dsimp only at hSw); go_simp) <;> (with_reducible rfl)
        try simp only [Act.put, List.setIfInBounds_toArray, List.set_cons_zero, List.set_cons_succ]
        refine wpAnyH_take (i := 3) (oi := ⟨some 57, _, _, _, _, _⟩) (v := ?_) rfl (by kernel_rfl) (by kernel_rfl) (by kernel_rfl) (fun _ _ _ h => h) (Or.inl ⟨by rfl, ?_⟩) (by assumption) ?_
        rotate_left 1
        · (intro w hSw; (try dsimp only at hSw); go_simp) <;> (with_reducible rfl)
        try simp only [Act.put, List.setIfInBounds_toArray, List.set_cons_zero, List.set_cons_succ]
        refine wpAnyH_take (i := 4) (oi := ⟨some 58, _, _, _, _, _⟩) (v := ?_) rfl (by kernel_rfl) (by kernel_rfl) (by kernel_rfl) (fun _ _ _ h => h) (Or.inl ⟨by rfl, ?_⟩) (by assumption) ?_
        rotate_left 1
        · (intro w hSw; (try dsimp only at hSw); go_simp) <;> (with_reducible rfl)
        try simp only [Act.put, List.setIfInBounds_toArray, List.set_cons_zero, List.set_cons_succ]
        refine wpAnyH_take (i := 6) (oi := ⟨some 60, _, _, _, _, _⟩) (v := ?_) rfl (by kernel_rfl) (by kernel_rfl) (by kernel_rfl) (fun _ _ _ h => h) (Or.inl ⟨by rfl, ?_⟩) (by assumption) ?_
        rotate_left 1
        · (intro w hSw; (try dsimp only at hSw); go_simp) <;> (with_reducible rfl)
        try simp only [Act.put, List.setIfInBounds_toArray, List.set_cons_zero, List.set_cons_succ]
        refine wpAnyH_take (i := 7) (oi := ⟨some 61, _, _, _, _, _⟩) (v := ?_) rfl (by kernel_rfl) (by kernel_rfl) (by kernel_rfl) (fun _ _ _ h => h) (Or.inl ⟨by rfl, ?_⟩) (by assumption) ?_
        rotate_left 1
        · (intro w hSw; (try dsimp only at hSw); go_simp) <;> (with_reducible rfl)
        try simp only [Act.put, List.setIfInBounds_toArray, List.set_cons_zero, List.set_cons_succ]
        refine wpAnyH_take (i := 8) (oi := ⟨some 62, _, _, _, _, _⟩) (v := ?_) rfl (by kernel_rfl) (by kernel_rfl) (by kernel_rfl) (fun _ _ _ h => h) (Or.inl ⟨by rfl, ?_⟩) (by assumption) ?_
        rotate_left 1
        · (intro w hSw; (try dsimp only at hSw); go_simp) <;> (with_reducible rfl)
        try simp only [Act.put, List.setIfInBounds_toArray, List.set_cons_zero, List.set_cons_succ]
        refine wpAnyH_take (i := 9) (oi := ⟨some 63, _, _, _, _, _⟩) (v := ?_) rfl (by kernel_rfl) (by kernel_rfl) (by kernel_rfl) (fun _ _ _ h => h) (Or.inl ⟨by rfl, ?_⟩) (by assumption) ?_
        rotate_left 1
        · (intro w hSw; (try dsimp only at hSw); go_simp) <;> (with_reducible rfl)
        try simp only [Act.put, List.setIfInBounds_toArray, List.set_cons_zero, List.set_cons_succ]
        refine wpAnyH_take (i := 10) (oi := ⟨some 64, _, _, _, _, _⟩) (v := ?_) rfl (by kernel_rfl) (by kernel_rfl) (by kernel_rfl) (fun _ _ _ h => h) (Or.inl ⟨by rfl, ?_⟩) (by assumption) ?_
        rotate_left 1
        · (intro w hSw; (try dsimp only at hSw); go_simp) <;> (with_reducible rfl)
        try simp only [Act.put, List.setIfInBounds_toArray, List.set_cons_zero, List.set_cons_succ]
        refine wpAnyH_take (i := 11) (oi := ⟨some 65, _, _, _, _, _⟩) (v := ?_) rfl (by kernel_rfl) (by kernel_rfl) (by kernel_rfl) (fun _ _ _ h => h) (Or.inl ⟨by rfl, ?_⟩) (by assumption) ?_
        rotate_left 1
        · (intro w hSw; (try dsimp only at hSw); go_simp) <;> (with_reducible rfl)
        try simp only [Act.put, List.setIfInBounds_toArray, List.set_cons_zero, List.set_cons_succ]
        refine wpAnyH_take (i := 12) (oi := ⟨some 66, _, _, _, _, _⟩) (v := ?_) rfl (by kernel_rfl) (by kernel_rfl) (by kernel_rfl) (fun _ _ _ h => h) (Or.inl ⟨by rfl, ?_⟩) (by assumption) ?_
        rotate_left 1
        · (intro w hSw; (try dsimp only at hSw); go_simp) <;> (with_reducible rfl)
        try simp only [Act.put, List.setIfInBounds_toArray, List.set_cons_zero, List.set_cons_succ]
        refine wpAnyH_take (i := 15) (oi := ⟨some 69, _, _, _, _, _⟩) (v := ?_) rfl (by kernel_rfl) (by kernel_rfl) (by kernel_rfl) (fun _ _ _ h => h) (Or.inl ⟨by rfl, ?_⟩) (by assumption) ?_
        rotate_left 1
        · (intro w hSw; (try dsimp only at hSw); go_simp) <;> (with_reducible rfl)
        try simp only [Act.put, List.setIfInBounds_toArray, List.set_cons_zero, List.set_cons_succ]
        refine wpAnyH_ready (rs := [5, 13]) (by kernel_rfl) (by simp) ?_
        refine AllReadyH.cons (o := ⟨some 59, _, _, _, _, _⟩) rfl (fun K hK => ?_) (AllReadyH.cons (o := ⟨some 67, _, _, _, _, _⟩) rfl (fun K hK => ?_) AllReadyH.nil)
        · go_simp
          refine hK.out _ _ ?_ (fun hHeld => ?_)
          · exact kL
          clear hK K
          try simp only [Act.put, List.setIfInBounds_toArray, List.set_cons_zero, List.set_cons_succ]
          refine wpAnyH_ready (rs := [13]) (by kernel_rfl) (by simp) ?_
          refine AllReadyH.cons (o := ⟨some 67, _, _, _, _, _⟩) rfl (fun K hK => ?_) AllReadyH.nil
          go_simp
          refine hK.out _ _ ?_ (fun hHeld => ?_)
          · exact kL
          clear hK K
          try simp only [Act.put, List.setIfInBounds_toArray, List.set_cons_zero, List.set_cons_succ]
          refine wpAnyH_ready (rs := [14]) (by kernel_rfl) (by simp) ?_
          refine AllReadyH.cons (o := ⟨some 68, _, _, _, _, _⟩) rfl (fun K hK => ?_) AllReadyH.nil
          refine step_app rfl _ _ 31 rfl w2.heap.size 5 i0 (.int .u8 0) 1 Try.underlying31 hi hz0 hz1 hz2 rfl (.slice (some ⟨w2.heap.size, 0, none⟩) 0 0) 0 [] rfl HNEW.out fa fc dt.length (cb dt) rfl (cb_length _) HDL.out.rd (cb_one _) HDL.out.nil (by unfold maxLen; omega) (by omega) HSL.out ?_
          intro v4 w4 ho4 hg4 _ _
          rw [Nat.zero_add, List.nil_append] at ho4
          obtain ⟨A4, c4, rfl, hc4, hA4⟩ := own_form ho4
          have HF4 : Hid (Fr NoBlk w2 w4) := HFL.out.grown hg4 (fun k hk hlt => by
            have hk' : some w2.heap.size = some k := hk
            injection hk' with hk'
            omega)
          have HO4 := Lib.hid ho4
          have k4 : w4.cell? ⟨m.g, 1, none⟩ = some (.slice (some ⟨b, 0, none⟩) m1.fs.length m1.FC) := (HF4.out.cell (p := ⟨m.g, 1, none⟩) hg2 (fun h => h)).trans c1
          have HRD4 := Lib.hid (HRD2.out.nofr HF4.out)
          have HSZ4 : Hid (w2.heap.size ≤ w4.heap.size) := HF4.out.size
          clear ho4 hg4 hc4 hA4
          refine hK.out _ _ ?_ (fun hHeld => ?_)
          · exact k4
          clear hK K
          try simp only [Act.put, List.setIfInBounds_toArray, List.set_cons_zero, List.set_cons_succ]
          refine wpAnyH_ready (rs := [16]) (by kernel_rfl) (by simp) ?_
          refine AllReadyH.cons (o := ⟨some 70, _, _, _, _, _⟩) rfl (fun K hK => ?_) AllReadyH.nil
          refine step_app rfl _ _ 31 rfl w2.heap.size 5 i0 (.int .u8 0) 1 Try.underlying31 hi hz0 hz1 hz2 rfl (.slice A4 dt.length c4) dt.length (cb dt) rfl HO4.out A c d.length (cb d) rfl (cb_length _) HRD4.out (cb_one _) HAC.out (by unfold maxLen; omega) (by omega) HSZ4.out ?_
          intro v5 w5 ho5 hg5 _ _
          obtain ⟨A5, c5, rfl, hc5, hA5⟩ := own_form ho5
          have HF5 : Hid (Fr NoBlk w2 w5) := HF4.out.grown hg5 (fun k hk hlt => by
            have := (own_lt HO4.out hk).1
            omega)
          have HO5 := Lib.hid ho5
          have k5 : w5.cell? ⟨m.g, 1, none⟩ = some (.slice (some ⟨b, 0, none⟩) m1.fs.length m1.FC) := (HF5.out.cell (p := ⟨m.g, 1, none⟩) hg2 (fun h => h)).trans c1
          have q5 : w5.cell? ⟨b, j * 3 + 1, none⟩ = some (.slice fa dt.length fc) := (HF5.out.cell (p := ⟨b, j * 3 + 1, none⟩) hbl (fun h => h)).trans q1
          have q5f : w5.frozen? ⟨b, j * 3 + 1, none⟩ = false := (HF5.out.frozen (p := ⟨b, j * 3 + 1, none⟩) hbl (fun h => h)).trans q1f
          have k6 : (w5.setCell ⟨b, j * 3 + 1, none⟩ (.slice A5 (dt.length + d.length) c5)).cell? ⟨m.g, 1, none⟩ = some (.slice (some ⟨b, 0, none⟩) m1.fs.length m1.FC) := by
            rw [World.cell?_setCell_far _ _ _ _ hbg]; exact k5
          have k4 := k5
          clear ho5 hg5 hc5 hA5
          refine hK.out _ _ ?_ (fun hHeld => ?_)
          · exact k4
          clear hK K
          try simp only [Act.put, List.setIfInBounds_toArray, List.set_cons_zero, List.set_cons_succ]
          refine wpAnyH_take (i := 17) (oi := ⟨some 71, _, _, _, _, _⟩) (v := ?_) rfl (by kernel_rfl) (by kernel_rfl) (by kernel_rfl) (fun _ _ _ h => h) (Or.inl ⟨by rfl, ?_⟩) (by assumption) ?_
          rotate_left 1
          · (intro w hSw; (try dsimp only at hSw); go_simp) <;> (with_reducible rfl)
          try simp only [Act.put, List.setIfInBounds_toArray, List.set_cons_zero, List.set_cons_succ]
          refine wpAnyH_take (i := 18) (oi := ⟨some 72, _, _, _, _, _⟩) (v := ?_) rfl (by kernel_rfl) (by kernel_rfl) (by kernel_rfl) (fun _ _ _ h => h) (Or.inl ⟨by rfl, ?_⟩) (by assumption) ?_
          rotate_left 1
          · (intro w hSw; (try dsimp only at hSw); go_simp) <;> (with_reducible rfl)
          try simp only [Act.put, List.setIfInBounds_toArray, List.set_cons_zero, List.set_cons_succ]
          refine wpAnyH_ready (rs := [19]) (by kernel_rfl) (by simp) ?_
          refine AllReadyH.cons (o := ⟨none, _, _, _, _, _⟩) rfl (fun K hK => ?_) AllReadyH.nil
          go_simp
          refine hK.out _ _ ?_ (fun hHeld => ?_)
          · exact k6
          clear hK K
          try simp only [Act.put, List.setIfInBounds_toArray, List.set_cons_zero, List.set_cons_succ]
          refine wpAnyH_done (by kernel_rfl) ?_ _
          have hlen5 : (dt ++ d).length = dt.length + d.length := List.length_append
          have HDY : Hid (DOk w5 base A5 c5 (dt ++ d)) := DOk.ofOwn (n := dt.length + d.length) (own_base (by rw [cb_append]; exact HO5.out) hb2) hlen5.symm
          have P6 := (HP2.out.more HF5.out).turn HJ1.out hA ⟨⟨nm, dt ++ d, la⟩, A5, c5⟩ 1 (by omega) (.slice A5 (dt.length + d.length) c5) (by show [_, _, _] = [_, Value.slice A5 (dt ++ d).length c5, _]; rw [hlen5]) HDY.out (fun hp k hk => .inr (by
            have hk' := (own_abl HO5.out hk).1
            have := HP2.out.fr.size
            omega))
          obtain ⟨m2, hm2⟩ : ∃ m2 : RM, m2 = { m1 with fs := m1.fs.set j ⟨⟨nm, dt ++ d, la⟩, A5, c5⟩ } := ⟨_, rfl⟩
          rw [← hm2] at P6
          have e21 : m2.left = m1.left := by rw [hm2]
          have e22 : m2.g = m.g := P6.g
          have HUS := Lib.hid (ruse_any _ base m2 P6.rin (by rw [e21, HM1.out.2.1]; exact HT.out.left))
          rw [e22, e21] at HUS
          have HFIN : Hid (∀ w7, RPost (w5.setCell ⟨b, j * 3 + 1, none⟩ (.slice A5 (dt.length + d.length) c5)) w7 base m2 (rspend m2) → REnd w base m r (.returned (.int .i64 (if m1.left = 0 then 3 else 0))) w7) := fun w7 hp7 => by
            refine ⟨?_, _, ?_, P6.trans hp7⟩
            · rw [HQ1.out]
              show _ = Ending.returned (.int .i64 (if m.left = 0 then 3 else 0))
              rw [HM1.out.2.1]
            · rw [HQ1.out, rspend_pd, hm2]
              show pspend (⟨m1.room, m1.left, m1.down, (m1.fs.set j _).map RF.pf⟩ : PD) = pspend ⟨m.room, m.left, m.down, _⟩
              rw [HM1.out.1, HM1.out.2.1, HM1.out.2.2, List.map_set, ← HPUT.out]
          clear hm2 e21 e22
          clear P6 HP2 HQ1 HDY HF4 HF5 HO4 HO5 HRD4 HSZ4 HDL HNEW HSL HFL HPUT
          by_cases h0 : m1.left = 0
          · rw [if_pos h0] at HFIN
            have e0 : decide (m1.left = 0) = true := decide_eq_true h0
            rw [e0] at HUS
            clear e0 h0
            go_wp2_with fail
            refine HUS.out.mono ?_
            clear HUS
            rintro e w7 ⟨rfl, hp7⟩
            have HZ := Lib.hid (HFIN.out w7 hp7)
            clear hp7 HFIN
            go_wp2_with fail
            go_ret
            exact HZ.out
          · rw [if_neg h0] at HFIN
            have e0 : decide (m1.left = 0) = false := decide_eq_false h0
            rw [e0] at HUS
            clear e0 h0
            go_wp2_with fail
            refine HUS.out.mono ?_
            clear HUS
            rintro e w7 ⟨rfl, hp7⟩
            have HZ := Lib.hid (HFIN.out w7 hp7)
            clear hp7 HFIN
            go_wp2_with fail
            go_ret
            exact HZ.out
        · go_simp
          refine hK.out _ _ ?_ (fun hHeld => ?_)
          · exact c1
          clear hK K
          try simp only [Act.put, List.setIfInBounds_toArray, List.set_cons_zero, List.set_cons_succ]
          refine wpAnyH_ready (rs := [5]) (by kernel_rfl) (by simp) ?_
          refine AllReadyH.cons (o := ⟨some 59, _, _, _, _, _⟩) rfl (fun K hK => ?_) AllReadyH.nil
          go_simp
          refine hK.out _ _ ?_ (fun hHeld => ?_)
          · exact kL
          clear hK K
          try simp only [Act.put, List.setIfInBounds_toArray, List.set_cons_zero, List.set_cons_succ]
          refine wpAnyH_ready (rs := [14]) (by kernel_rfl) (by simp) ?_
          refine AllReadyH.cons (o := ⟨some 68, _, _, _, _, _⟩) rfl (fun K hK => ?_) AllReadyH.nil
          refine step_app rfl _ _ 31 rfl w2.heap.size 5 i0 (.int .u8 0) 1 Try.underlying31 hi hz0 hz1 hz2 rfl (.slice (some ⟨w2.heap.size, 0, none⟩) 0 0) 0 [] rfl HNEW.out fa fc dt.length (cb dt) rfl (cb_length _) HDL.out.rd (cb_one _) HDL.out.nil (by unfold maxLen; omega) (by omega) HSL.out ?_
          intro v4 w4 ho4 hg4 _ _
          rw [Nat.zero_add, List.nil_append] at ho4
          obtain ⟨A4, c4, rfl, hc4, hA4⟩ := own_form ho4
          have HF4 : Hid (Fr NoBlk w2 w4) := HFL.out.grown hg4 (fun k hk hlt => by
            have hk' : some w2.heap.size = some k := hk
            injection hk' with hk'
            omega)
          have HO4 := Lib.hid ho4
          have k4 : w4.cell? ⟨m.g, 1, none⟩ = some (.slice (some ⟨b, 0, none⟩) m1.fs.length m1.FC) := (HF4.out.cell (p := ⟨m.g, 1, none⟩) hg2 (fun h => h)).trans c1
          have HRD4 := Lib.hid (HRD2.out.nofr HF4.out)
          have HSZ4 : Hid (w2.heap.size ≤ w4.heap.size) := HF4.out.size
          clear ho4 hg4 hc4 hA4
          refine hK.out _ _ ?_ (fun hHeld => ?_)
          · exact k4
          clear hK K
          try simp only [Act.put, List.setIfInBounds_toArray, List.set_cons_zero, List.set_cons_succ]
          refine wpAnyH_ready (rs := [16]) (by kernel_rfl) (by simp) ?_
          refine AllReadyH.cons (o := ⟨some 70, _, _, _, _, _⟩) rfl (fun K hK => ?_) AllReadyH.nil
          refine step_app rfl _ _ 31 rfl w2.heap.size 5 i0 (.int .u8 0) 1 Try.underlying31 hi hz0 hz1 hz2 rfl (.slice A4 dt.length c4) dt.length (cb dt) rfl HO4.out A c d.length (cb d) rfl (cb_length _) HRD4.out (cb_one _) HAC.out (by unfold maxLen; omega) (by omega) HSZ4.out ?_
          intro v5 w5 ho5 hg5 _ _
          obtain ⟨A5, c5, rfl, hc5, hA5⟩ := own_form ho5
          have HF5 : Hid (Fr NoBlk w2 w5) := HF4.out.grown hg5 (fun k hk hlt => by
            have := (own_lt HO4.out hk).1
            omega)
          have HO5 := Lib.hid ho5
          have k5 : w5.cell? ⟨m.g, 1, none⟩ = some (.slice (some ⟨b, 0, none⟩) m1.fs.length m1.FC) := (HF5.out.cell (p := ⟨m.g, 1, none⟩) hg2 (fun h => h)).trans c1
          have q5 : w5.cell? ⟨b, j * 3 + 1, none⟩ = some (.slice fa dt.length fc) := (HF5.out.cell (p := ⟨b, j * 3 + 1, none⟩) hbl (fun h => h)).trans q1
          have q5f : w5.frozen? ⟨b, j * 3 + 1, none⟩ = false := (HF5.out.frozen (p := ⟨b, j * 3 + 1, none⟩) hbl (fun h => h)).trans q1f
          have k6 : (w5.setCell ⟨b, j * 3 + 1, none⟩ (.slice A5 (dt.length + d.length) c5)).cell? ⟨m.g, 1, none⟩ = some (.slice (some ⟨b, 0, none⟩) m1.fs.length m1.FC) := by
            rw [World.cell?_setCell_far _ _ _ _ hbg]; exact k5
          have k4 := k5
          clear ho5 hg5 hc5 hA5
          refine hK.out _ _ ?_ (fun hHeld => ?_)
          · exact k4
          clear hK K
          try simp only [Act.put, List.setIfInBounds_toArray, List.set_cons_zero, List.set_cons_succ]
          refine wpAnyH_take (i := 17) (oi := ⟨some 71, _, _, _, _, _⟩) (v := ?_) rfl (by kernel_rfl) (by kernel_rfl) (by kernel_rfl) (fun _ _ _ h => h) (Or.inl ⟨by rfl, ?_⟩) (by assumption) ?_
          rotate_left 1
          · (intro w hSw; (try dsimp only at hSw); go_simp) <;> (with_reducible rfl)
          try simp only [Act.put, List.setIfInBounds_toArray, List.set_cons_zero, List.set_cons_succ]
          refine wpAnyH_take (i := 18) (oi := ⟨some 72, _, _, _, _, _⟩) (v := ?_) rfl (by kernel_rfl) (by kernel_rfl) (by kernel_rfl) (fun _ _ _ h => h) (Or.inl ⟨by rfl, ?_⟩) (by assumption) ?_
          rotate_left 1
          · (intro w hSw; (try dsimp only at hSw); go_simp) <;> (with_reducible rfl)
          try simp only [Act.put, List.setIfInBounds_toArray, List.set_cons_zero, List.set_cons_succ]
          refine wpAnyH_ready (rs := [19]) (by kernel_rfl) (by simp) ?_
          refine AllReadyH.cons (o := ⟨none, _, _, _, _, _⟩) rfl (fun K hK => ?_) AllReadyH.nil
          go_simp
          refine hK.out _ _ ?_ (fun hHeld => ?_)
          · exact k6
          clear hK K
          try simp only [Act.put, List.setIfInBounds_toArray, List.set_cons_zero, List.set_cons_succ]
          refine wpAnyH_done (by kernel_rfl) ?_ _
          have hlen5 : (dt ++ d).length = dt.length + d.length := List.length_append
          have HDY : Hid (DOk w5 base A5 c5 (dt ++ d)) := DOk.ofOwn (n := dt.length + d.length) (own_base (by rw [cb_append]; exact HO5.out) hb2) hlen5.symm
          have P6 := (HP2.out.more HF5.out).turn HJ1.out hA ⟨⟨nm, dt ++ d, la⟩, A5, c5⟩ 1 (by omega) (.slice A5 (dt.length + d.length) c5) (by show [_, _, _] = [_, Value.slice A5 (dt ++ d).length c5, _]; rw [hlen5]) HDY.out (fun hp k hk => .inr (by
            have hk' := (own_abl HO5.out hk).1
            have := HP2.out.fr.size
            omega))
          obtain ⟨m2, hm2⟩ : ∃ m2 : RM, m2 = { m1 with fs := m1.fs.set j ⟨⟨nm, dt ++ d, la⟩, A5, c5⟩ } := ⟨_, rfl⟩
          rw [← hm2] at P6
          have e21 : m2.left = m1.left := by rw [hm2]
          have e22 : m2.g = m.g := P6.g
          have HUS := Lib.hid (ruse_any _ base m2 P6.rin (by rw [e21, HM1.out.2.1]; exact HT.out.left))
          rw [e22, e21] at HUS
          have HFIN : Hid (∀ w7, RPost (w5.setCell ⟨b, j * 3 + 1, none⟩ (.slice A5 (dt.length + d.length) c5)) w7 base m2 (rspend m2) → REnd w base m r (.returned (.int .i64 (if m1.left = 0 then 3 else 0))) w7) := fun w7 hp7 => by
            refine ⟨?_, _, ?_, P6.trans hp7⟩
            · rw [HQ1.out]
              show _ = Ending.returned (.int .i64 (if m.left = 0 then 3 else 0))
              rw [HM1.out.2.1]
            · rw [HQ1.out, rspend_pd, hm2]
              show pspend (⟨m1.room, m1.left, m1.down, (m1.fs.set j _).map RF.pf⟩ : PD) = pspend ⟨m.room, m.left, m.down, _⟩
              rw [HM1.out.1, HM1.out.2.1, HM1.out.2.2, List.map_set, ← HPUT.out]
          clear hm2 e21 e22
          clear P6 HP2 HQ1 HDY HF4 HF5 HO4 HO5 HRD4 HSZ4 HDL HNEW HSL HFL HPUT
          by_cases h0 : m1.left = 0
          · rw [if_pos h0] at HFIN
            have e0 : decide (m1.left = 0) = true := decide_eq_true h0
            rw [e0] at HUS
            clear e0 h0
            go_wp2_with fail
            refine HUS.out.mono ?_
            clear HUS
            rintro e w7 ⟨rfl, hp7⟩
            have HZ := Lib.hid (HFIN.out w7 hp7)
            clear hp7 HFIN
            go_wp2_with fail
            go_ret
            exact HZ.out
          · rw [if_neg h0] at HFIN
            have e0 : decide (m1.left = 0) = false := decide_eq_false h0
            rw [e0] at HUS
            clear e0 h0
            go_wp2_with fail
            refine HUS.out.mono ?_
            clear HUS
            rintro e w7 ⟨rfl, hp7⟩
            have HZ := Lib.hid (HFIN.out w7 hp7)
            clear hp7 HFIN
            go_wp2_with fail
            go_ret
            exact HZ.out
  · by_cases hful : m.room < tot + d.length
    · have HZ : Hid (∀ n, REnd w base m r (.returned (.int .i64 2)) (w.drewN n)) := fun n => by
        have := REnd.same HR.out (r := r) (z := 2) (by rw [HQ.out]; exact app_full hd HNM.out (.inr (by show m.room < ptotal m.pfs + d.length; rw [← HTT.out]; exact hful)))
        obtain ⟨h1, m', h2, h3⟩ := this
        exact ⟨h1, m', h2, h3.more ((Fr.refl _ _).drewN n)⟩
      have d5 : decide ((m.room : Int) - (tot : Int) < (d.length : Int)) = true := decide_eq_true (by omega)
      have d6 : decide ((j : Int) < 0) = false := decide_eq_false (by omega)
      clear hj hk hf
      go_wp2_with fail
      go_quiet ((go_at_call 29; exact quiet_left (HUD.out _)))
      go_wp2_with fail
      go_ret
      exact HZ.out _
    · have HQ1 : Hid (r = (pspend { m.pd with files := pput m.pfs key d }, pspendE m.pd)) := by
        show _ = _
        rw [HQ.out]
        refine app_put hd HNM.out ?_
        rintro (⟨h2, _⟩ | h2)
        · have h3 : pfind m.pfs key = none := h2
          rw [hf] at h3
          cases h3
        · exact hful (by rw [HTT.out]; exact h2)
      have d5 : decide ((m.room : Int) - (tot : Int) < (d.length : Int)) = false := decide_eq_false (by omega)
      have d6 : decide ((j : Int) < 0) = false := decide_eq_false (by omega)
      obtain ⟨f1, hf1, hff⟩ : ∃ f1, m.fs[j]? = some f1 ∧ f1.pf = f := by
        have hj2 : (m.fs.map RF.pf)[j]? = some f := hj
        rw [List.getElem?_map] at hj2
        cases hg : m.fs[j]? with
        | none => rw [hg] at hj2; cases hj2
        | some g => rw [hg] at hj2; injection hj2 with hj2; exact ⟨g, rfl, hj2⟩
      have HN1 : Hid (f1.pf.name = key) := by show _ = _; rw [hff]; exact hk
      have HPUT : Hid (pput m.pfs key d = m.pfs.set j { f1.pf with data := f1.pf.data ++ d }) := by
        show _ = _
        unfold pput
        rw [hf]
        show pset m.pfs key _ = _
        rw [← HN1.out]
        exact pset_at m.pfs HT.out.nodup j f1.pf (by rw [hff]; exact hj) _
      have HDT : Hid (f1.pf.data.length ≤ 1048576) := by
        have h1 : f1.pf ∈ m.pfs := by rw [hff]; exact List.mem_of_getElem? hj
        have := ptotal_mem h1
        have := HTT.out
        show _ ≤ _
        omega
      have HJ0 := Lib.hid hf1
      clear hj hk hf hff hf1
      go_wp2_with fail
      go_quiet ((go_at_call 29; exact quiet_left (HUD.out _)))
      have HP2 : Hid (RPost w (w.drewN nq) base m m) := (RPost.refl HR.out).more ((Fr.refl _ _).drewN nq)
      clear HUD c0 c1 c3
      generalize w.drewN nq = w2 at *
      obtain ⟨m1, hm1⟩ : ∃ m1, m1 = m := ⟨_, rfl⟩
      have HM1 : Hid (m1.room = m.room ∧ m1.left = m.left ∧ m1.down = m.down) := by rw [hm1]; exact ⟨rfl, rfl, rfl⟩
      have HJ1 : Hid (m1.fs[j]? = some f1) := by rw [hm1]; exact HJ0.out
      have HPUT2 : Hid (pput m.pfs key d = m1.pfs.set j { f1.pf with data := f1.pf.data ++ d }) := by rw [hm1]; exact HPUT.out
      have HP22 : Hid (RPost w w2 base m m1) := by rw [hm1]; exact HP2.out
      clear HP2 HPUT HJ0 hm1
      have HP2 := HP22
      have HPUT := HPUT2
      clear HP22 HPUT2
      have hjn : ¬ ((j : Int) < 0) := by omega
      · skip
        obtain ⟨b, hA, hne, q0, q1, q2, hfz⟩ := HP2.out.rin.file HJ1.out
        obtain ⟨_, c1, _, _⟩ := HP2.out.rin.cell
        have hg2 := HP2.out.rin.bk.lt
        have hgm : m1.g = m.g := HP2.out.g
        rw [hgm] at hg2 c1 hne
        rw [hA] at c1
        have HD := Lib.hid (HP2.out.rin.dat _ (List.mem_of_getElem? HJ1.out))
        have hjl := (List.getElem?_eq_some_iff.1 HJ1.out).1
        obtain ⟨⟨nm, dt, la⟩, fa, fc⟩ := f1
        obtain rfl : nm = key := HN1.out
        dsimp only at q0 q1 q2 HD HPUT
        have hdt : dt.length ≤ 1048576 := HDT.out
        have i0' : (0 : Int) ≤ (j : Int) := by omega
        have i1' : (j : Int) < (m1.fs.length : Int) := by omega
        have q1f := hfz (j * 3 + 1)
        have hbl : b < w2.heap.size := World.block_lt_of_cell? w2 _ q1
        have hbg : b ≠ m.g := hne
        have hb2 : base ≤ w2.heap.size := Nat.le_trans hb HP2.out.fr.size
        have HRD2 : Hid (Rd w2 A (cb d)) := HRD.out.fr' HP2.out.fr fun hp k hk hc => by
          have h1 := HSAFE.out (by rw [← cb_length]; exact hp) k hk
          have h2 := (HR.out.own hc).1
          omega
        have HFL : Hid (Fr NoBlk w2 (w2.drew.alloc (.cells #[] 5))) := ((Fr.refl _ _).drew).alloc _
        have HNEW : Hid ((w2.drew.alloc (.cells #[] 5)).ownsRow w2.heap.size 5 1 (.slice (some ⟨w2.heap.size, 0, none⟩) 0 0) 0 []) := World.ownsRow_made w2.drew #[] 0 (Nat.le_refl _) (by decide) rfl
        have HDL := Lib.hid (HD.out.nofr HFL.out)
        have HSL : Hid (w2.heap.size ≤ (w2.drew.alloc (.cells #[] 5)).heap.size) := HFL.out.size
        have kL : (w2.drew.alloc (.cells #[] 5)).cell? ⟨m.g, 1, none⟩ = some (.slice (some ⟨b, 0, none⟩) m1.fs.length m1.FC) := (HFL.out.cell (p := ⟨m.g, 1, none⟩) hg2 (fun h => h)).trans c1
        have qL : (w2.drew.alloc (.cells #[] 5)).cell? ⟨b, j * 3 + 1, none⟩ = some (.slice fa dt.length fc) := (HFL.out.cell (p := ⟨b, j * 3 + 1, none⟩) hbl (fun h => h)).trans q1
        have qD : w2.drew.cell? ⟨b, j * 3 + 1, none⟩ = some (.slice fa dt.length fc) := q1
        clear q0 q2 hfz hne
        go_wp2_with fail
        refine wp_region_held_drew (S := fun w' => w'.cell? ⟨m.g, 1, none⟩ = some (.slice (some ⟨b, 0, none⟩) m1.fs.length m1.FC)) (by kernel_rfl) (by exact c1) (fun hHeld => ?_)
        refine wpAnyH_take (i := 0) (oi := ⟨some 54, _, _, _, _, _⟩) (v := ?_) rfl (by kernel_rfl) (by kernel_rfl) (by kernel_rfl) (fun _ _ _ h => h) (Or.inl ⟨by rfl, ?_⟩) (by assumption) ?_
        rotate_left 1
        · (intro w hSw; (try dsimp only at hSw); go_simp) <;> (with_reducible rfl)
        try simp only [Act.put, List.setIfInBounds_toArray, List.set_cons_zero, List.set_cons_succ]
        refine wpAnyH_take (i := 1) (oi := ⟨some 55, _, _, _, _, _⟩) (v := ?_) rfl (by kernel_rfl) (by kernel_rfl) (by kernel_rfl) (fun _ _ _ h => h) (Or.inl ⟨by rfl, ?_⟩) (by assumption) ?_
        rotate_left 1
        · (intro w hSw; (try dsimp only at hSw); go_simp) <;> (with_reducible rfl)
        try simp only [Act.put, List.setIfInBounds_toArray, List.set_cons_zero, List.set_cons_succ]
        refine wpAnyH_take (i := 2) (oi := ⟨some 56, _, _, _, _, _⟩) (v := ?_) rfl (by kernel_rfl) (by kernel_rfl) (by kernel_rfl) (fun _ _ _ h => h) (Or.inl ⟨by rfl, ?_⟩) (by assumption) ?_
        rotate_left 1
        · (intro w hSw; (try dsimp only at hSw); go_simp) <;> (with_reducible rfl)
        try simp only [Act.put, List.setIfInBounds_toArray, List.set_cons_zero, List.set_cons_succ]
        refine wpAnyH_take (i := 3) (oi := ⟨some 57, _, _, _, _, _⟩) (v := ?_) rfl (by kernel_rfl) (by kernel_rfl) (by kernel_rfl) (fun _ _ _ h => h) (Or.inl ⟨by rfl, ?_⟩) (by assumption) ?_
        rotate_left 1
        · (intro w hSw; (try dsimp only at hSw); go_simp) <;> (with_reducible rfl)
        try simp only [Act.put, List.setIfInBounds_toArray, List.set_cons_zero, List.set_cons_succ]
        refine wpAnyH_take (i := 4) (oi := ⟨some 58, _, _, _, _, _⟩) (v := ?_) rfl (by kernel_rfl) (by kernel_rfl) (by kernel_rfl) (fun _ _ _ h => h) (Or.inl ⟨by rfl, ?_⟩) (by assumption) ?_
        rotate_left 1
        · (intro w hSw; (try dsimp only at hSw); go_simp) <;> (with_reducible rfl)
        try simp only [Act.put, List.setIfInBounds_toArray, List.set_cons_zero, List.set_cons_succ]
        refine wpAnyH_take (i := 6) (oi := ⟨some 60, _, _, _, _, _⟩) (v := ?_) rfl (by kernel_rfl) (by kernel_rfl) (by kernel_rfl) (fun _ _ _ h => h) (Or.inl ⟨by rfl, ?_⟩) (by assumption) ?_
        rotate_left 1
        · (intro w hSw; (try dsimp only at hSw); go_simp) <;> (with_reducible rfl)
        try simp only [Act.put, List.setIfInBounds_toArray, List.set_cons_zero, List.set_cons_succ]
        refine wpAnyH_take (i := 7) (oi := ⟨some 61, _, _, _, _, _⟩) (v := ?_) rfl (by kernel_rfl) (by kernel_rfl) (by kernel_rfl) (fun _ _ _ h => h) (Or.inl ⟨by rfl, ?_⟩) (by assumption) ?_
        rotate_left 1
        · (intro w hSw; (try dsimp only at hSw); go_simp) <;> (with_reducible rfl)
        try simp only [Act.put, List.setIfInBounds_toArray, List.set_cons_zero, List.set_cons_succ]
        refine wpAnyH_take (i := 8) (oi := ⟨some 62, _, _, _, _, _⟩) (v := ?_) rfl (by kernel_rfl) (by kernel_rfl) (by kernel_rfl) (fun _ _ _ h => h) (Or.inl ⟨by rfl, ?_⟩) (by assumption) ?_
        rotate_left 1
        · (intro w hSw; (try dsimp only at hSw); go_simp) <;> (with_reducible rfl)
        try simp only [Act.put, List.setIfInBounds_toArray, List.set_cons_zero, List.set_cons_succ]
        refine wpAnyH_take (i := 9) (oi := ⟨some 63, _, _, _, _, _⟩) (v := ?_) rfl (by kernel_rfl) (by kernel_rfl) (by kernel_rfl) (fun _ _ _ h => h) (Or.inl ⟨by rfl, ?_⟩) (by assumption) ?_
        rotate_left 1
        · (intro w hSw; (try dsimp only at hSw); go_simp) <;> (with_reducible rfl)
        try simp only [Act.put, List.setIfInBounds_toArray, List.set_cons_zero, List.set_cons_succ]
        refine wpAnyH_take (i := 10) (oi := ⟨some 64, _, _, _, _, _⟩) (v := ?_) rfl (by kernel_rfl) (by kernel_rfl) (by kernel_rfl) (fun _ _ _ h => h) (Or.inl ⟨by rfl, ?_⟩) (by assumption) ?_
        rotate_left 1
        · (intro w hSw; (try dsimp only at hSw); go_simp) <;> (with_reducible rfl)
        try simp only [Act.put, List.setIfInBounds_toArray, List.set_cons_zero, List.set_cons_succ]
        refine wpAnyH_take (i := 11) (oi := ⟨some 65, _, _, _, _, _⟩) (v := ?_) rfl (by kernel_rfl) (by kernel_rfl) (by kernel_rfl) (fun _ _ _ h => h) (Or.inl ⟨by rfl, ?_⟩) (by assumption) ?_
        rotate_left 1
        · (intro w hSw; (try dsimp only at hSw); go_simp) <;> (with_reducible rfl)
        try simp only [Act.put, List.setIfInBounds_toArray, List.set_cons_zero, List.set_cons_succ]
        refine wpAnyH_take (i := 12) (oi := ⟨some 66, _, _, _, _, _⟩) (v := ?_) rfl (by kernel_rfl) (by kernel_rfl) (by kernel_rfl) (fun _ _ _ h => h) (Or.inl ⟨by rfl, ?_⟩) (by assumption) ?_
        rotate_left 1
        · (intro w hSw; (try dsimp only at hSw); go_simp) <;> (with_reducible rfl)
        try simp only [Act.put, List.setIfInBounds_toArray, List.set_cons_zero, List.set_cons_succ]
        refine wpAnyH_take (i := 15) (oi := ⟨some 69, _, _, _, _, _⟩) (v := ?_) rfl (by kernel_rfl) (by kernel_rfl) (by kernel_rfl) (fun _ _ _ h => h) (Or.inl ⟨by rfl, ?_⟩) (by assumption) ?_
        rotate_left 1
        · (intro w hSw; (try dsimp only at hSw); go_simp) <;> (with_reducible rfl)
        try simp only [Act.put, List.setIfInBounds_toArray, List.set_cons_zero, List.set_cons_succ]
        refine wpAnyH_ready (rs := [5, 13]) (by kernel_rfl) (by simp) ?_
        refine AllReadyH.cons (o := ⟨some 59, _, _, _, _, _⟩) rfl (fun K hK => ?_) (AllReadyH.cons (o := ⟨some 67, _, _, _, _, _⟩) rfl (fun K hK => ?_) AllReadyH.nil)
        · go_simp
          refine hK.out _ _ ?_ (fun hHeld => ?_)
          · exact kL
          clear hK K
          try simp only [Act.put, List.setIfInBounds_toArray, List.set_cons_zero, List.set_cons_succ]
          refine wpAnyH_ready (rs := [13]) (by kernel_rfl) (by simp) ?_
          refine AllReadyH.cons (o := ⟨some 67, _, _, _, _, _⟩) rfl (fun K hK => ?_) AllReadyH.nil
          go_simp
          refine hK.out _ _ ?_ (fun hHeld => ?_)
          · exact kL
          clear hK K
          try simp only [Act.put, List.setIfInBounds_toArray, List.set_cons_zero, List.set_cons_succ]
          refine wpAnyH_ready (rs := [14]) (by kernel_rfl) (by simp) ?_
          refine AllReadyH.cons (o := ⟨some 68, _, _, _, _, _⟩) rfl (fun K hK => ?_) AllReadyH.nil
          refine step_app rfl _ _ 31 rfl w2.heap.size 5 i0 (.int .u8 0) 1 Try.underlying31 hi hz0 hz1 hz2 rfl (.slice (some ⟨w2.heap.size, 0, none⟩) 0 0) 0 [] rfl HNEW.out fa fc dt.length (cb dt) rfl (cb_length _) HDL.out.rd (cb_one _) HDL.out.nil (by unfold maxLen; omega) (by omega) HSL.out ?_
          intro v4 w4 ho4 hg4 _ _
          rw [Nat.zero_add, List.nil_append] at ho4
          obtain ⟨A4, c4, rfl, hc4, hA4⟩ := own_form ho4
          have HF4 : Hid (Fr NoBlk w2 w4) := HFL.out.grown hg4 (fun k hk hlt => by
            have hk' : some w2.heap.size = some k := hk
            injection hk' with hk'
            omega)
          have HO4 := Lib.hid ho4
          have k4 : w4.cell? ⟨m.g, 1, none⟩ = some (.slice (some ⟨b, 0, none⟩) m1.fs.length m1.FC) := (HF4.out.cell (p := ⟨m.g, 1, none⟩) hg2 (fun h => h)).trans c1
          have HRD4 := Lib.hid (HRD2.out.nofr HF4.out)
          have HSZ4 : Hid (w2.heap.size ≤ w4.heap.size) := HF4.out.size
          clear ho4 hg4 hc4 hA4
          refine hK.out _ _ ?_ (fun hHeld => ?_)
          · exact k4
          clear hK K
          try simp only [Act.put, List.setIfInBounds_toArray, List.set_cons_zero, List.set_cons_succ]
          refine wpAnyH_ready (rs := [16]) (by kernel_rfl) (by simp) ?_
          refine AllReadyH.cons (o := ⟨some 70, _, _, _, _, _⟩) rfl (fun K hK => ?_) AllReadyH.nil
          refine step_app rfl _ _ 31 rfl w2.heap.size 5 i0 (.int .u8 0) 1 Try.underlying31 hi hz0 hz1 hz2 rfl (.slice A4 dt.length c4) dt.length (cb dt) rfl HO4.out A c d.length (cb d) rfl (cb_length _) HRD4.out (cb_one _) HAC.out (by unfold maxLen; omega) (by omega) HSZ4.out ?_
          intro v5 w5 ho5 hg5 _ _
          obtain ⟨A5, c5, rfl, hc5, hA5⟩ := own_form ho5
          have HF5 : Hid (Fr NoBlk w2 w5) := HF4.out.grown hg5 (fun k hk hlt => by
            have := (own_lt HO4.out hk).1
            omega)
          have HO5 := Lib.hid ho5
          have k5 : w5.cell? ⟨m.g, 1, none⟩ = some (.slice (some ⟨b, 0, none⟩) m1.fs.length m1.FC) := (HF5.out.cell (p := ⟨m.g, 1, none⟩) hg2 (fun h => h)).trans c1
          have q5 : w5.cell? ⟨b, j * 3 + 1, none⟩ = some (.slice fa dt.length fc) := (HF5.out.cell (p := ⟨b, j * 3 + 1, none⟩) hbl (fun h => h)).trans q1
          have q5f : w5.frozen? ⟨b, j * 3 + 1, none⟩ = false := (HF5.out.frozen (p := ⟨b, j * 3 + 1, none⟩) hbl (fun h => h)).trans q1f
          have k6 : (w5.setCell ⟨b, j * 3 + 1, none⟩ (.slice A5 (dt.length + d.length) c5)).cell? ⟨m.g, 1, none⟩ = some (.slice (some ⟨b, 0, none⟩) m1.fs.length m1.FC) := by
            rw [World.cell?_setCell_far _ _ _ _ hbg]; exact k5
          have k4 := k5
          clear ho5 hg5 hc5 hA5
          refine hK.out _ _ ?_ (fun hHeld => ?_)
          · exact k4
          clear hK K
          try simp only [Act.put, List.setIfInBounds_toArray, List.set_cons_zero, List.set_cons_succ]
          refine wpAnyH_take (i := 17) (oi := ⟨some 71, _, _, _, _, _⟩) (v := ?_) rfl (by kernel_rfl) (by kernel_rfl) (by kernel_rfl) (fun _ _ _ h => h) (Or.inl ⟨by rfl, ?_⟩) (by assumption) ?_
          rotate_left 1
          · (intro w hSw; (try dsimp only at hSw); go_simp) <;> (with_reducible rfl)
          try simp only [Act.put, List.setIfInBounds_toArray, List.set_cons_zero, List.set_cons_succ]
          refine wpAnyH_take (i := 18) (oi := ⟨some 72, _, _, _, _, _⟩) (v := ?_) rfl (by kernel_rfl) (by kernel_rfl) (by kernel_rfl) (fun _ _ _ h => h) (Or.inl ⟨by rfl, ?_⟩) (by assumption) ?_
          rotate_left 1
          · (intro w hSw; (try dsimp only at hSw); go_simp) <;> (with_reducible rfl)
          try simp only [Act.put, List.setIfInBounds_toArray, List.set_cons_zero, List.set_cons_succ]
          refine wpAnyH_ready (rs := [19]) (by kernel_rfl) (by simp) ?_
          refine AllReadyH.cons (o := ⟨none, _, _, _, _, _⟩) rfl (fun K hK => ?_) AllReadyH.nil
          go_simp
          refine hK.out _ _ ?_ (fun hHeld => ?_)
          · exact k6
          clear hK K
          try simp only [Act.put, List.setIfInBounds_toArray, List.set_cons_zero, List.set_cons_succ]
          refine wpAnyH_done (by kernel_rfl) ?_ _
          have hlen5 : (dt ++ d).length = dt.length + d.length := List.length_append
          have HDY : Hid (DOk w5 base A5 c5 (dt ++ d)) := DOk.ofOwn (n := dt.length + d.length) (own_base (by rw [cb_append]; exact HO5.out) hb2) hlen5.symm
          have P6 := (HP2.out.more HF5.out).turn HJ1.out hA ⟨⟨nm, dt ++ d, la⟩, A5, c5⟩ 1 (by omega) (.slice A5 (dt.length + d.length) c5) (by show [_, _, _] = [_, Value.slice A5 (dt ++ d).length c5, _]; rw [hlen5]) HDY.out (fun hp k hk => .inr (by
            have hk' := (own_abl HO5.out hk).1
            have := HP2.out.fr.size
            omega))
          obtain ⟨m2, hm2⟩ : ∃ m2 : RM, m2 = { m1 with fs := m1.fs.set j ⟨⟨nm, dt ++ d, la⟩, A5, c5⟩ } := ⟨_, rfl⟩
          rw [← hm2] at P6
          have e21 : m2.left = m1.left := by rw [hm2]
          have e22 : m2.g = m.g := P6.g
          have HUS := Lib.hid (ruse_any _ base m2 P6.rin (by rw [e21, HM1.out.2.1]; exact HT.out.left))
          rw [e22, e21] at HUS
          have HFIN : Hid (∀ w7, RPost (w5.setCell ⟨b, j * 3 + 1, none⟩ (.slice A5 (dt.length + d.length) c5)) w7 base m2 (rspend m2) → REnd w base m r (.returned (.int .i64 (if m1.left = 0 then 3 else 0))) w7) := fun w7 hp7 => by
            refine ⟨?_, _, ?_, P6.trans hp7⟩
            · rw [HQ1.out]
              show _ = Ending.returned (.int .i64 (if m.left = 0 then 3 else 0))
              rw [HM1.out.2.1]
            · rw [HQ1.out, rspend_pd, hm2]
              show pspend (⟨m1.room, m1.left, m1.down, (m1.fs.set j _).map RF.pf⟩ : PD) = pspend ⟨m.room, m.left, m.down, _⟩
              rw [HM1.out.1, HM1.out.2.1, HM1.out.2.2, List.map_set, ← HPUT.out]
          clear hm2 e21 e22
          clear P6 HP2 HQ1 HDY HF4 HF5 HO4 HO5 HRD4 HSZ4 HDL HNEW HSL HFL HPUT
          by_cases h0 : m1.left = 0
          · rw [if_pos h0] at HFIN
            have e0 : decide (m1.left = 0) = true := decide_eq_true h0
            rw [e0] at HUS
            clear e0 h0
            go_wp2_with fail
            refine HUS.out.mono ?_
            clear HUS
            rintro e w7 ⟨rfl, hp7⟩
            have HZ := Lib.hid (HFIN.out w7 hp7)
            clear hp7 HFIN
            go_wp2_with fail
            go_ret
            exact HZ.out
          · rw [if_neg h0] at HFIN
            have e0 : decide (m1.left = 0) = false := decide_eq_false h0
            rw [e0] at HUS
            clear e0 h0
            go_wp2_with fail
            refine HUS.out.mono ?_
            clear HUS
            rintro e w7 ⟨rfl, hp7⟩
            have HZ := Lib.hid (HFIN.out w7 hp7)
            clear hp7 HFIN
            go_wp2_with fail
            go_ret
            exact HZ.out
        · go_simp
          refine hK.out _ _ ?_ (fun hHeld => ?_)
          · exact c1
          clear hK K
          try simp only [Act.put, List.setIfInBounds_toArray, List.set_cons_zero, List.set_cons_succ]
          refine wpAnyH_ready (rs := [5]) (by kernel_rfl) (by simp) ?_
          refine AllReadyH.cons (o := ⟨some 59, _, _, _, _, _⟩) rfl (fun K hK => ?_) AllReadyH.nil
          go_simp
          refine hK.out _ _ ?_ (fun hHeld => ?_)
          · exact kL
          clear hK K
          try simp only [Act.put, List.setIfInBounds_toArray, List.set_cons_zero, List.set_cons_succ]
          refine wpAnyH_ready (rs := [14]) (by kernel_rfl) (by simp) ?_
          refine AllReadyH.cons (o := ⟨some 68, _, _, _, _, _⟩) rfl (fun K hK => ?_) AllReadyH.nil
          refine step_app rfl _ _ 31 rfl w2.heap.size 5 i0 (.int .u8 0) 1 Try.underlying31 hi hz0 hz1 hz2 rfl (.slice (some ⟨w2.heap.size, 0, none⟩) 0 0) 0 [] rfl HNEW.out fa fc dt.length (cb dt) rfl (cb_length _) HDL.out.rd (cb_one _) HDL.out.nil (by unfold maxLen; omega) (by omega) HSL.out ?_
          intro v4 w4 ho4 hg4 _ _
          rw [Nat.zero_add, List.nil_append] at ho4
          obtain ⟨A4, c4, rfl, hc4, hA4⟩ := own_form ho4
          have HF4 : Hid (Fr NoBlk w2 w4) := HFL.out.grown hg4 (fun k hk hlt => by
            have hk' : some w2.heap.size = some k := hk
            injection hk' with hk'
            omega)
          have HO4 := Lib.hid ho4
          have k4 : w4.cell? ⟨m.g, 1, none⟩ = some (.slice (some ⟨b, 0, none⟩) m1.fs.length m1.FC) := (HF4.out.cell (p := ⟨m.g, 1, none⟩) hg2 (fun h => h)).trans c1
          have HRD4 := Lib.hid (HRD2.out.nofr HF4.out)
          have HSZ4 : Hid (w2.heap.size ≤ w4.heap.size) := HF4.out.size
          clear ho4 hg4 hc4 hA4
          refine hK.out _ _ ?_ (fun hHeld => ?_)
          · exact k4
          clear hK K
          try simp only [Act.put, List.setIfInBounds_toArray, List.set_cons_zero, List.set_cons_succ]
          refine wpAnyH_ready (rs := [16]) (by kernel_rfl) (by simp) ?_
          refine AllReadyH.cons (o := ⟨some 70, _, _, _, _, _⟩) rfl (fun K hK => ?_) AllReadyH.nil
          refine step_app rfl _ _ 31 rfl w2.heap.size 5 i0 (.int .u8 0) 1 Try.underlying31 hi hz0 hz1 hz2 rfl (.slice A4 dt.length c4) dt.length (cb dt) rfl HO4.out A c d.length (cb d) rfl (cb_length _) HRD4.out (cb_one _) HAC.out (by unfold maxLen; omega) (by omega) HSZ4.out ?_
          intro v5 w5 ho5 hg5 _ _
          obtain ⟨A5, c5, rfl, hc5, hA5⟩ := own_form ho5
          have HF5 : Hid (Fr NoBlk w2 w5) := HF4.out.grown hg5 (fun k hk hlt => by
            have := (own_lt HO4.out hk).1
            omega)
          have HO5 := Lib.hid ho5
          have k5 : w5.cell? ⟨m.g, 1, none⟩ = some (.slice (some ⟨b, 0, none⟩) m1.fs.length m1.FC) := (HF5.out.cell (p := ⟨m.g, 1, none⟩) hg2 (fun h => h)).trans c1
          have q5 : w5.cell? ⟨b, j * 3 + 1, none⟩ = some (.slice fa dt.length fc) := (HF5.out.cell (p := ⟨b, j * 3 + 1, none⟩) hbl (fun h => h)).trans q1
          have q5f : w5.frozen? ⟨b, j * 3 + 1, none⟩ = false := (HF5.out.frozen (p := ⟨b, j * 3 + 1, none⟩) hbl (fun h => h)).trans q1f
          have k6 : (w5.setCell ⟨b, j * 3 + 1, none⟩ (.slice A5 (dt.length + d.length) c5)).cell? ⟨m.g, 1, none⟩ = some (.slice (some ⟨b, 0, none⟩) m1.fs.length m1.FC) := by
            rw [World.cell?_setCell_far _ _ _ _ hbg]; exact k5
          have k4 := k5
          clear ho5 hg5 hc5 hA5
          refine hK.out _ _ ?_ (fun hHeld => ?_)
          · exact k4
          clear hK K
          try simp only [Act.put, List.setIfInBounds_toArray, List.set_cons_zero, List.set_cons_succ]
          refine wpAnyH_take (i := 17) (oi := ⟨some 71, _, _, _, _, _⟩) (v := ?_) rfl (by kernel_rfl) (by kernel_rfl) (by kernel_rfl) (fun _ _ _ h => h) (Or.inl ⟨by rfl, ?_⟩) (by assumption) ?_
          rotate_left 1
          · (intro w hSw; (try dsimp only at hSw); go_simp) <;> (with_reducible rfl)
          try simp only [Act.put, List.setIfInBounds_toArray, List.set_cons_zero, List.set_cons_succ]
          refine wpAnyH_take (i := 18) (oi := ⟨some 72, _, _, _, _, _⟩) (v := ?_) rfl (by kernel_rfl) (by kernel_rfl) (by kernel_rfl) (fun _ _ _ h => h) (Or.inl ⟨by rfl, ?_⟩) (by assumption) ?_
          rotate_left 1
          · (intro w hSw; (try dsimp only at hSw); go_simp) <;> (with_reducible rfl)
          try simp only [Act.put, List.setIfInBounds_toArray, List.set_cons_zero, List.set_cons_succ]
          refine wpAnyH_ready (rs := [19]) (by kernel_rfl) (by simp) ?_
          refine AllReadyH.cons (o := ⟨none, _, _, _, _, _⟩) rfl (fun K hK => ?_) AllReadyH.nil
          go_simp
          refine hK.out _ _ ?_ (fun hHeld => ?_)
          · exact k6
          clear hK K
          try simp only [Act.put, List.setIfInBounds_toArray, List.set_cons_zero, List.set_cons_succ]
          refine wpAnyH_done (by kernel_rfl) ?_ _
          have hlen5 : (dt ++ d).length = dt.length + d.length := List.length_append
          have HDY : Hid (DOk w5 base A5 c5 (dt ++ d)) := DOk.ofOwn (n := dt.length + d.length) (own_base (by rw [cb_append]; exact HO5.out) hb2) hlen5.symm
          have P6 := (HP2.out.more HF5.out).turn HJ1.out hA ⟨⟨nm, dt ++ d, la⟩, A5, c5⟩ 1 (by omega) (.slice A5 (dt.length + d.length) c5) (by show [_, _, _] = [_, Value.slice A5 (dt ++ d).length c5, _]; rw [hlen5]) HDY.out (fun hp k hk => .inr (by
            have hk' := (own_abl HO5.out hk).1
            have := HP2.out.fr.size
            omega))
          obtain ⟨m2, hm2⟩ : ∃ m2 : RM, m2 = { m1 with fs := m1.fs.set j ⟨⟨nm, dt ++ d, la⟩, A5, c5⟩ } := ⟨_, rfl⟩
          rw [← hm2] at P6
          have e21 : m2.left = m1.left := by rw [hm2]
          have e22 : m2.g = m.g := P6.g
          have HUS := Lib.hid (ruse_any _ base m2 P6.rin (by rw [e21, HM1.out.2.1]; exact HT.out.left))
          rw [e22, e21] at HUS
          have HFIN : Hid (∀ w7, RPost (w5.setCell ⟨b, j * 3 + 1, none⟩ (.slice A5 (dt.length + d.length) c5)) w7 base m2 (rspend m2) → REnd w base m r (.returned (.int .i64 (if m1.left = 0 then 3 else 0))) w7) := fun w7 hp7 => by
            refine ⟨?_, _, ?_, P6.trans hp7⟩
            · rw [HQ1.out]
              show _ = Ending.returned (.int .i64 (if m.left = 0 then 3 else 0))
              rw [HM1.out.2.1]
            · rw [HQ1.out, rspend_pd, hm2]
              show pspend (⟨m1.room, m1.left, m1.down, (m1.fs.set j _).map RF.pf⟩ : PD) = pspend ⟨m.room, m.left, m.down, _⟩
              rw [HM1.out.1, HM1.out.2.1, HM1.out.2.2, List.map_set, ← HPUT.out]
          clear hm2 e21 e22
          clear P6 HP2 HQ1 HDY HF4 HF5 HO4 HO5 HRD4 HSZ4 HDL HNEW HSL HFL HPUT
          by_cases h0 : m1.left = 0
          · rw [if_pos h0] at HFIN
            have e0 : decide (m1.left = 0) = true := decide_eq_true h0
            rw [e0] at HUS
            clear e0 h0
            go_wp2_with fail
            refine HUS.out.mono ?_
            clear HUS
            rintro e w7 ⟨rfl, hp7⟩
            have HZ := Lib.hid (HFIN.out w7 hp7)
            clear hp7 HFIN
            go_wp2_with fail
            go_ret
            exact HZ.out
          · rw [if_neg h0] at HFIN
            have e0 : decide (m1.left = 0) = false := decide_eq_false h0
            rw [e0] at HUS
            clear e0 h0
            go_wp2_with fail
            refine HUS.out.mono ?_
            clear HUS
            rintro e w7 ⟨rfl, hp7⟩
            have HZ := Lib.hid (HFIN.out w7 hp7)
            clear hp7 HFIN
            go_wp2_with fail
            go_ret
            exact HZ.out
end Go.Proofs.Ytnmemdhajjibgaa
